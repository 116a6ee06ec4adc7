import PyProof.Rows.All
import Wide.All
import OpenK.AllK
import Wide.FinOn
import HandS.ForMost
import HandS.ForExc
import HandS.IsInst
import HandS.StrMore
import HandS.Style
import HandS.Property
import HandS.Flow
import HandS.TryMany
import HandS.ExcInit
import HandS.ExcIs
import HandS.ExcField
import HandS.Defaults
import HandS.Wide
import HandS.Walk
import HandS.FStr
import HandS.Conv
import HandS.SortInts
import HandS.More
import PyProof.CallFns
import PyProof.FString3
import PyProof.Rows.StrIntSpec
import PyProof.P3Eq
import HandS.Codes
import PySem.Challenge.RW_neverunsaid_k05_frames_and_cuts
set_option Elab.async false
set_option linter.all false
set_option maxRecDepth 100000
set_option maxHeartbeats 4000000
namespace Nv
open PySem PySem.Spec PyProof.Rows L2

/-- a def's promise where no repr is under way -/
structure FnG (P : Program) (w : World) (K : PySem.W.Frag) (mg : Str → Option Value) (base : Heap) (k : Nat)
    (f : Addr) (fd : FuncData) (ps : List Str) (sp : Sp) : Prop where
  len : ∀ vs H Q E, sp vs H Q E → vs.length = ps.length
  run : ∀ (A : Around) (outer : List Env) (s : Shared) (H : Hp) (args : Args) (us : List Value) (vs : List V) (Q : VK) (E : XK),
    A.guards = some [] → Room k A → Env0 P w K mg base A outer s H → BindsTo s fd args (ps.zip us) → Vals vs us →
    sp vs H Q E → codeAny (model P w) A (.call (.ref f) args) (CR (L2.CX P w) outer P w H s Q E) s

section
variable {P : Program} {w : World} {K : PySem.W.Frag} {mg : Str → Option Value} {base : Heap} {k : Nat}
    {f : Addr} {fd : FuncData} {ps : List Str} {sp : Sp}
theorem FnG.mono {j : Nat} (F : FnG P w K mg base j f fd ps sp) (h : j ≤ k) : FnG P w K mg base k f fd ps sp :=
  ⟨F.len, fun A o s H a us vs Q E hg hr => F.run A o s H a us vs Q E hg (hr.mono h)⟩
theorem FnG.imp {sp' : Sp} (F : FnG P w K mg base k f fd ps sp) (h : ∀ vs H Q E, sp' vs H Q E → sp vs H Q E) :
    FnG P w K mg base k f fd ps sp' :=
  ⟨fun vs H Q E z => F.len vs H Q E (h _ _ _ _ z),
    fun A o s H a us vs Q E hg hr he hb hv hs => F.run A o s H a us vs Q E hg hr he hb hv (h _ _ _ _ hs)⟩
/-- a def by its body -/
theorem okG {x qual : Str} {st : Stmt} {N : List Str} (F : Fun K x qual st f fd) (S : FnScope N ps (defScope st))
    (len : ∀ vs H Q E, sp vs H Q E → vs.length = ps.length)
    (body : ∀ (cdv : Value) (A : Around) (outer : List Env) (s : Shared) (H : Hp) (vs : List V) (Q : VK) (E : XK),
      A.guards = some [] → Room k (A.deeper (envOfC qual (defScope st) s.heap.objs.size f cdv)) → sp vs H Q E →
      ∃ t, PSs (cxOf (L2.CX P w) P w K mg base N qual (defScope st) f cdv A outer s H E) (defBody st) t ∧
        t { nx := fun _ H' => Q .non H', rt := Q } (start N vs) H) :
    FnG P w K mg base (k + 1) f fd ps sp := by
  obtain ⟨oc, od, kV, doc, pm, an, cdv, ct, osl, rfl, lk, hcd⟩ := F.ex
  refine ⟨len, ?_⟩
  intro A outer s H args us vs Q E hg hr e0 hb r hsp
  have hl := len _ _ _ _ hsp
  have stays : ∀ b o, base.get? b = some o → s.heap.get? b = some o := fun b o e => (e0.bs b o e).1
  have KX : K.In s.heap := e0.mod.kin.keeps stays
  have kinds : ∀ y ∈ ps.zip us, (defScope st).names.lookup y.1 = some .local ∨
      ((defScope st).names.lookup y.1 = some .cell ∧
        ((cellsFrom (s.heap.objs.size + 1) (defScope st).names []).lookup y.1).isSome = true) := by
    intro y hy
    rcases S.par y.1 (List.of_mem_zip (a := y.1) (b := y.2) hy).1 with q | q
    · exact Or.inl q
    · exact Or.inr ⟨q, PySem.W.cellsFrom_some _ _ _ (Or.inl q)⟩
  refine codeAny_call_function hr.depth (KX _ _ lk) rfl S.co S.gen rfl (PySem.W.codeRec_of KX hcd) (hb _ _ _ _ ?_)
  refine wpAny_newFunctionEnv_cells S.kind kinds ?_
  intro env he s1 x
  subst he
  refine ⟨(e0.mod.nolimit.keeps stays).keeps x.toInCall.keep, codeAny_func ?_⟩
  obtain ⟨t, ht, hq⟩ := body cdv A outer s H vs Q E hg (hr.deeper _) hsp
  have I := inv_start (CX := L2.CX P w) (E := E) S hr.hd e0 hl r x
  refine wpAny_mono (ht.run [] s1 (start N vs) H _ I hq) ?_ (fun _ _ z => z)
  intro fl s' hs
  have fin : ∀ {σ' : L2.St} {H' : Hp} {v : V} {u : Value},
      Inv (cxOf (L2.CX P w) P w K mg base N qual (defScope st) f cdv A outer s H E) [] σ' H' s' → RelV v u → Q v H' →
      CE outer P w H s Q u s' := fun {σ' H' v u} J rv q => ⟨v, H', J.os, J.bare, J.base, J.hok, rv, q⟩
  cases fl with
  | next => obtain ⟨_, _, J, q⟩ := hs; exact fin (v := V.non) (u := Value.none) J rfl q
  | ret u => obtain ⟨_, _, _, J, rv, q⟩ := hs; exact fin J rv q
  | brk => obtain ⟨_, _, _, q⟩ := hs; exact q.elim
  | cont => obtain ⟨_, _, _, q⟩ := hs; exact q.elim
end

/-! calls -/
section
variable {X : Cx} {W : WX} {k : Nat} {f C : Addr} {fd : FuncData} {ps ks : List Str} {sp : Sp} {x m : Str}
    {p pos apos : Pos} {e o : Expr} {es : List Expr} {kws : List Keyword} {ta : TE} {t tk' : TA}
theorem runG {pins : List (Addr × Obj)} {σ : L2.St} {H : Hp} {s : Shared} {Q : VK} {us us2 : List Value} {vs : List V} {kw : List (Str × Value)}
    (F : FnG X.prog X.w X.K X.mg X.base k f fd ps sp) (tk : Takes X W) (hG : X.A.guards = some []) (hr : Room k X.A)
    (hb : BindsTo s fd ⟨us, kw⟩ (ps.zip us2)) (I : Inv X pins σ H s) (r : Vals vs us2) (h : sp vs H Q (WE W σ)) :
    wpAny (model X.prog X.w) X.A (call (.ref f) us kw) (EP X pins σ Q) X.xe s := by
  refine wpAny_call (codeAny_mono (F.run X.A X.stack s H ⟨us, kw⟩ us2 vs Q (WE W σ) hG hr I.env0 hb r h) ?_)
  intro r s' hq
  cases r with
  | error er => exact passAt tk σ pins H s er s' I hq
  | ok fl =>
    cases fl with
    | ret u => exact I.after hq
    | next => exact hq.elim
    | brk => exact hq.elim
    | cont => exact hq.elim
theorem lenG {us : List Value} {vs : List V} {H : Hp} {Q : VK} {E : XK} (F : FnG X.prog X.w X.K X.mg X.base k f fd ps sp)
    (r : Vals vs us) (h : sp vs H Q E) : us.length = ps.length := by
  rw [← r.length]
  exact F.len _ _ _ _ h
/-- all parameters are given by position -/
def Pos1 (fd : FuncData) (ps : List Str) : Prop := ∀ us : List Value, us.length = ps.length → bindArgs fd ⟨us, []⟩ = pure (ps.zip us)
/-- n parameters are given by position, those behind them by their names -/
def Kw1 (fd : FuncData) (ps ks : List Str) (n : Nat) : Prop :=
  ∀ us ws : List Value, us.length = n → ws.length = ks.length → bindArgs fd ⟨us, ks.zip ws⟩ = pure (ps.zip (us ++ ws))
/-- f(e, ..), also where it may raise -/
def tCG (sp : Sp) (W : WX) (t : TA) : TE := fun σ H Q => t σ H fun vs H1 => sp vs H1 Q (WE W σ)
theorem pe_cG (F : FnG X.prog X.w X.K X.mg X.base k f fd ps sp) (b : Pos1 fd ps) (tk : Takes X W) (hG : X.A.guards = some []) (hr : Room k X.A)
    (hm : X.mg x = some (.ref f)) (hk : PySem.W.keepIn X.K (.ref f) = true) (ha : PA X (e :: es) t) (hg : Gl X x := by rfl)
    (hdb : (x == ("__debug__" : Str)) = false := by decide) (he : starEach (e :: es) X.env = (false, eval e X.env) :: starEach es X.env := by rfl)
    (hpl : (backTo pos (starEach es X.env)).any (·.1) = false := by rfl) : PE X (.Call (.Name x p) (e :: es) [] pos) (tCG sp W t) := by
  constructor
  intro pins s σ H Q I h
  refine wpAny_Call_Name_kw (ld_glob I hg hm ?_ hdb)
  refine PySem.W.callWith_K (h₀ := X.base) I.ok.mod.kin hk (thn (ha.run pos pins s σ H _ I h) ?_) he hpl
  intro us s1 ⟨vs, H1, I1, r, q⟩
  exact ⟨I1.kIn, runG F tk hG hr (.of_eq (b _ (lenG F r q))) I1 r q⟩
theorem pe_cG0 (F : FnG X.prog X.w X.K X.mg X.base k f fd ps sp) (b : Pos1 fd ps) (tk : Takes X W) (hG : X.A.guards = some []) (hr : Room k X.A)
    (hm : X.mg x = some (.ref f)) (hk : PySem.W.keepIn X.K (.ref f) = true) (hg : Gl X x := by rfl)
    (hdb : (x == ("__debug__" : Str)) = false := by decide) : PE X (.Call (.Name x p) [] [] pos) (tCG sp W tNil) := by
  constructor
  intro pins s σ H Q I h
  refine wpAny_Call_Name_kw (ld_glob I hg hm ?_ hdb)
  exact PySem.W.callWith_K0 I.kIn hk (runG F tk hG hr (.of_eq (b [] (lenG F .nil h))) I .nil h)
/-- f(k = e, ..), keywords in the parameters' order -/
theorem pe_cGk (F : FnG X.prog X.w X.K X.mg X.base k f fd ps sp) (b : Kw1 fd ps ks 0) (hlen : ps.length = ks.length) (tk : Takes X W) (hG : X.A.guards = some []) (hr : Room k X.A)
    (hm : X.mg x = some (.ref f)) (hk : PySem.W.keepIn X.K (.ref f) = true) (ha : PK X kws t) (hg : Gl X x := by rfl)
    (hall : (backToKw pos (keywordEach kws X.env)).all (·.1.isSome) = true := by rfl) (hks : (backToKw pos (keywordEach kws X.env)).filterMap (·.1) = ks := by rfl)
    (hdb : (x == ("__debug__" : Str)) = false := by decide)
    (hpl : ((backTo pos (starEach [] X.env)).any (·.1) || (backToKw pos (keywordEach kws X.env)).any (·.1.isNone)) = false := by rfl) :
    PE X (.Call (.Name x p) [] kws pos) (tCG sp W t) := by
  constructor
  intro pins s σ H Q I h
  refine wpAny_Call_Name_kw (ld_glob I hg hm ?_ hdb)
  refine PySem.W.callWith_KW0 (h₀ := X.base) I.ok.mod.kin hk hall ?_ hpl
  refine thn (ha.run pos pins s σ H _ I h) ?_
  intro ws s2 ⟨zs, H2, I2, rz, q2⟩
  refine ⟨I2.kIn, ?_⟩
  rw [hks]
  exact runG F tk hG hr (.of_eq (b [] ws rfl ((lenG F rz q2).trans hlen))) I2 rz q2
/-- o.m(e, ..) -/
def tMG (C : Addr) (m : Str) (sp : Sp) (W : WX) (ta : TE) (t : TA) : TE := fun σ H Q => ta σ H fun x H1 => ∃ a dx fs, x = .ref a ∧ H1 a = some (.ins C dx fs) ∧
  fs.lookup m = none ∧ t σ H1 fun vs H2 => sp (x :: vs) H2 Q (WE W σ)
theorem pe_mG {pl : Sem Bool} (he : PE X o ta) (c : Cls X.K C) (hm : Meth X.K C m f) (F : FnG X.prog X.w X.K X.mg X.base k f fd ps sp) (b : Pos1 fd ps) (tk : Takes X W)
    (hG : X.A.guards = some []) (hr : Room k X.A) (ha : PA X (e :: es) t)
    (hst : starEach (e :: es) X.env = (false, eval e X.env) :: starEach es X.env := by rfl) (hpl : (backTo pos (starEach es X.env)).any (·.1) = false := by rfl)
    (ht : eval (.Call (.Attribute o m apos) (e :: es) [] pos) X.env = (do
      let ov ← eval o X.env
      standAt apos.atName
      let (f, first) ← holding [ov] (getMethod ov m pl)
      callWith pos f first (backTo pos (starEach (e :: es) X.env)) (backToKw pos (keywordEach [] X.env))) := by rfl) :
    PE X (.Call (.Attribute o m apos) (e :: es) [] pos) (tMG C m sp W ta t) := by
  constructor
  intro pins s σ H Q I h
  refine PySem.W.methodCall_KW (pl := pl) (thn (he.run pins s σ H _ I h) ?_) ht
  intro u s1 ⟨x, H1, I1, rx, a, dx, fs, ex, ea, l, q⟩
  subst ex
  obtain rfl : u = Value.ref a := rx
  refine getmeth_ok I1 ea c hm l ?_
  refine PySem.W.callWith_K (first := [.ref a]) (h₀ := X.base) I.ok.mod.kin hm.kp (thn (ha.run pos pins s1 σ H1 _ I1 q) ?_) hst hpl
  intro us s2 ⟨vs, H2, I2, r, q2⟩
  have r2 : Vals (V.ref a :: vs) (Value.ref a :: us) := .cons rfl r
  exact ⟨I2.kIn, runG (us := .ref a :: us) F tk hG hr (.of_eq (b _ (lenG F r2 q2))) I2 r2 q2⟩
theorem pe_mG0 {pl : Sem Bool} (he : PE X o ta) (c : Cls X.K C) (hm : Meth X.K C m f) (F : FnG X.prog X.w X.K X.mg X.base k f fd ps sp) (b : Pos1 fd ps) (tk : Takes X W)
    (hG : X.A.guards = some []) (hr : Room k X.A)
    (ht : eval (.Call (.Attribute o m apos) [] [] pos) X.env = (do
      let ov ← eval o X.env
      standAt apos.atName
      let (f, first) ← holding [ov] (getMethod ov m pl)
      callWith pos f first (backTo pos (starEach [] X.env)) (backToKw pos (keywordEach [] X.env))) := by rfl) :
    PE X (.Call (.Attribute o m apos) [] [] pos) (tMG C m sp W ta tNil) := by
  constructor
  intro pins s σ H Q I h
  refine PySem.W.methodCall_KW (pl := pl) (thn (he.run pins s σ H _ I h) ?_) ht
  intro u s1 ⟨x, H1, I1, rx, a, dx, fs, ex, ea, l, q⟩
  subst ex
  obtain rfl : u = Value.ref a := rx
  refine getmeth_ok I1 ea c hm l ?_
  have r2 : Vals [V.ref a] [Value.ref a] := .cons rfl .nil
  exact PySem.W.callWith_K0 (first := [.ref a]) I1.kIn hm.kp (runG (us := [.ref a]) F tk hG hr (.of_eq (b _ (lenG F r2 q))) I1 r2 q)
/-- o.m(k = e, ..) -/
theorem pe_mGk {pl : Sem Bool} (he : PE X o ta) (c : Cls X.K C) (hm : Meth X.K C m f) (F : FnG X.prog X.w X.K X.mg X.base k f fd ps sp) (b : Kw1 fd ps ks 1) (hlen : ps.length = ks.length + 1) (tk : Takes X W)
    (hG : X.A.guards = some []) (hr : Room k X.A) (ha : PK X kws t)
    (hall : (backToKw pos (keywordEach kws X.env)).all (·.1.isSome) = true := by rfl) (hks : (backToKw pos (keywordEach kws X.env)).filterMap (·.1) = ks := by rfl)
    (hpl : ((backTo pos (starEach [] X.env)).any (·.1) || (backToKw pos (keywordEach kws X.env)).any (·.1.isNone)) = false := by rfl)
    (ht : eval (.Call (.Attribute o m apos) [] kws pos) X.env = (do
      let ov ← eval o X.env
      standAt apos.atName
      let (f, first) ← holding [ov] (getMethod ov m pl)
      callWith pos f first (backTo pos (starEach [] X.env)) (backToKw pos (keywordEach kws X.env))) := by rfl) :
    PE X (.Call (.Attribute o m apos) [] kws pos) (tMG C m sp W ta t) := by
  constructor
  intro pins s σ H Q I h
  refine PySem.W.methodCall_KW (pl := pl) (thn (he.run pins s σ H _ I h) ?_) ht
  intro u s1 ⟨x, H1, I1, rx, a, dx, fs, ex, ea, l, q⟩
  subst ex
  obtain rfl : u = Value.ref a := rx
  refine getmeth_ok I1 ea c hm l ?_
  refine PySem.W.callWith_KW0 (first := [.ref a]) (h₀ := X.base) I.ok.mod.kin hm.kp hall ?_ hpl
  refine thn (ha.run pos pins s1 σ H1 _ I1 q) ?_
  intro ws s2 ⟨zs, H2, I2, rz, q2⟩
  refine ⟨I2.kIn, ?_⟩
  rw [hks]
  have r2 : Vals (V.ref a :: zs) (Value.ref a :: ws) := .cons rfl rz
  have hw : ws.length = ks.length := by
    have z := lenG F r2 q2
    rw [List.length_cons, hlen] at z
    omega
  exact runG (us := [.ref a]) F tk hG hr (.of_eq (b [.ref a] ws rfl hw)) I2 r2 q2
end
end Nv

namespace Nv
open PySem PySem.Spec PyProof.Rows L2

/-- the law's call, from an abstract heap that tracks the script alone or nothing -/
theorem law_from {P : Program} {w : World} {K : PySem.W.Frag} {mg mb : Str → Option Value} {k : Nat} {fa a : Addr} {fd : FuncData} {x : Str} {sp : Sp}
    {s₁ : Shared} {vs : List Value} {H : Hp}
    (KX : K.In s₁.heap) (hns : s₁.heap.Ns mainGlobals mg) (hb : s₁.heap.Ns builtinsNs mb) (hbb : ∀ x : Str, x ≠ "__name__" → mb x = bootBuiltins x)
    (hlim : s₁.heap.NoLimit) (hg : s₁.gens = #[]) (ha : s₁.heap.get? a = some { cls := .type "list", data := .seq vs.toArray }) (hr : Room k callerA)
    (F : ∀ base : Heap, K.In base → base.Ns mainGlobals mg → FnG P w K mg base k fa fd [x] sp) (hbind : ∀ (s : Shared) (u : Value), BindsTo s fd ⟨[u], []⟩ [(x, u)])
    (hok : HOk P w H s₁.heap) (only : ∀ b, H b = none ∨ (b = a ∧ K.lookup a = none ∧ ∃ o xs, H b = some (.frz o (.lst xs))))
    (hsp : sp [.ref a] H (fun v _ => v = .bl true) fun _ _ _ => False) :
    codeAny (model P w) callerA (.call (.ref fa) ⟨[.ref a], []⟩)
      (fun r s' => r = .ok (.ret (.bool true)) ∧ OldK s₁.heap s'.heap ∧ s'.os = s₁.os ∧ AllBare s'.gens) s₁ := by
  have notA : ∀ {b : Addr} {o : Obj} {es : Array DictEntry} {ep : Nat}, s₁.heap.get? b = some o → o.data = .dict es ep → H b = none := by
    intro b o es ep e d
    rcases only b with z | ⟨z, _, _⟩
    · exact z
    · subst z
      rw [ha] at e
      cases e
      cases (show Data.seq vs.toArray _ = Data.dict es ep from d)
  have nsKeep : ∀ {b : Addr} {m : Str → Option Value}, s₁.heap.Ns b m → (hidT s₁.heap H).Ns b m := by
    intro b m ⟨o, es, ep, e, d, r⟩
    exact ⟨o, es, ep, hidT_get e (notA e d), d, r⟩
  have kin : K.In (hidT s₁.heap H) := by
    intro b o e
    refine hidT_get (KX b o e) ?_
    rcases only b with z | ⟨z, z2, _⟩
    · exact z
    · rw [z, z2] at e
      cases e
  have lim : (hidT s₁.heap H).NoLimit := by
    obtain ⟨mc, h1, h2⟩ := hlim
    exact ⟨mc, nsKeep h1, h2⟩
  have md : Mod K mg (hidT s₁.heap H) := ⟨kin, nsKeep hns, ⟨mb, nsKeep hb, hbb⟩, lim⟩
  have noF : ∀ b : Addr, b ∉ frs [] := fun b z => by
    cases (show b ∈ ([] : List Addr) from z)
  have e0 : Env0 P w K mg (hidT s₁.heap H) callerA [] s₁ H :=
    ⟨rfl, md, fun b o e => of_hidT e, Nat.le_of_eq (hidT_size _ _), trivial, fun b z => absurd z (noF b), hok, .of_eq hg⟩
  refine codeAny_mono ((F _ kin (nsKeep hns)).run callerA [] s₁ H ⟨[.ref a], []⟩ [.ref a] [.ref a] _ _ rfl hr e0 (hbind s₁ (.ref a)) (.cons rfl .nil) hsp) ?_
  intro r s' h
  cases r with
  | error e =>
    obtain ⟨_, _, _, _, _, _, _, _, _, _, _, _, z⟩ := h
    exact z.elim
  | ok fl =>
    cases fl with
    | next => exact h.elim
    | brk => exact h.elim
    | cont => exact h.elim
    | ret u =>
      obtain ⟨v, H', os, bare, un, hok', rv, q⟩ := h
      have q1 : v = .bl true := q
      subst q1
      obtain rfl : u = Value.bool true := rv
      refine ⟨rfl, OldK.of_keep ?_, os, bare⟩
      intro b o e
      rcases only b with z | ⟨_, _, ob, xs, z⟩
      · exact un.keep b o e z (noF b) (fun z => by cases z)
      · have z2 := un.frzs b ob _ z
        have e1 := (hok b _ z).1
        have e2 := (hok' b _ z2).1
        rw [e] at e1
        cases e1
        exact e2

/-- the end of a law's row: its promise as a FnG -/
theorem walkG {l : PySem.W.OpenLaw} {n k : Nat} {q : Program} {loose : List Str} {XP : (Str → Option Value) → Heap → Prop} {YP : World → Heap → Prop}
    {d : DefRec} {K : Params → PySem.W.Frag} {sp : PySem.W.Frag → Sp} {x : Str}
    (hn : l.most = some n) (hn2 : n ≤ sizeLine) (hdf : d.params.defaults = []) (hr : Room k callerA)
    (hY : ∀ (w : World) (h : Heap), YP w h → (K w.params).In h)
    (F : ∀ (w : World) (mg : Str → Option Value) (fa : Addr) (h : Heap), (K w.params).In h → h.Ns mainGlobals mg → mg d.name = some (.ref fa) →
      ∃ fd : FuncData, (∀ (s : Shared) (u : Value), BindsTo s fd ⟨[u], []⟩ [(x, u)]) ∧
        ∀ base : Heap, (K w.params).In base → base.Ns mainGlobals mg → FnG l.prog w (K w.params) mg base k fa fd [x] (sp (K w.params)))
    (hsp : ∀ (K : PySem.W.Frag) (H : Hp) (a : Addr) (ns : List Int), ns.length ≤ n → SqL K H a (ns.map V.int) → sp K [.ref a] H (fun v _ => v = .bl true) fun _ _ _ => False) :
    PySem.W.WalkO q loose XP YP l.row.toRowW d [] (fun f vs => PySem.call f vs) := by
  refine Att.attach_call hn hdf ?_
  intro w s₀ s₁ mg mb fa o pm cd doc a vs ns G Y ho hd hcd hmg hobj hints hlen hg
  have KX := hY w _ Y
  obtain ⟨fd, hb, hF⟩ := F w mg fa _ KX G.T.g hmg
  have rv := vals_ints hints
  have lv := hints.length
  have hlz : ns.length ≤ sizeLine := Nat.le_trans hlen hn2
  cases hk : (K w.params).lookup a with
  | some ob =>
    have e := KX a ob hk
    rw [hobj] at e
    cases e
    refine law_from (H := fun _ => none) KX G.T.g G.T.b G.T.builtins G.T.nolimit hg hobj hr hF hb (fun b u z => by cases z) (fun _ => .inl rfl) (hsp _ _ a ns hlen ?_)
    exact .inr ⟨_, vs.toArray, _, hk, rfl, rfl, rfl, by rw [List.size_toArray, lv]; exact hlz, by simpa using rv⟩
  | none =>
    have at1 : ∀ (o : HO) , (fun b => if b = a then some o else none : Hp) a = some o := fun o => if_pos rfl
    refine law_from (H := fun b => if b = a then some (.frz { cls := .type "list", data := .seq vs.toArray } (.lst (ns.map V.int))) else none)
      KX G.T.g G.T.b G.T.builtins G.T.nolimit hg hobj hr hF hb ?_ ?_ (hsp _ _ a ns hlen (.inl (.inr ⟨_, at1 _⟩)))
    · intro b u z
      by_cases h : b = a
      · subst h
        rw [at1] at z
        cases z
        exact ⟨hobj, by rw [List.length_map]; exact hlz, vs, _, rv, hobj⟩
      · have z2 := (if_neg h).symm.trans z
        cases z2
    · intro b
      by_cases h : b = a
      · exact .inr ⟨h, hk, _, _, if_pos h⟩
      · exact .inl (if_neg h)
end Nv

namespace Nv
open PySem PySem.Spec PyProof.Rows L2

/-! data that stands in the heap, dicts too -/
def keyD : Key → PyData
  | .inl i => .int i
  | .inr x => .str x
mutual
inductive DV (H : Hp) : V → PyData → Prop
  | non : DV H .non .none
  | bl (b : Bool) : DV H (.bl b) (.bool b)
  | int (i : Int) : DV H (.int i) (.int i)
  | str (x : Str) : DV H (.str x) (.str x)
  | lst {a : Addr} {xs : List V} {ds : List PyData} : H a = some (.lst xs) → a ≠ sysModules → DVs H xs ds → DV H (.ref a) (.list ds)
  | tup {a : Addr} {xs : List V} {ds : List PyData} : H a = some (.tup xs) → DVs H xs ds → DV H (.ref a) (.tuple ds)
  | dct {a : Addr} {kvs : List (Key × V)} {ds : List (PyData × PyData)} : H a = some (.dK kvs) → DVk H kvs ds → DV H (.ref a) (.dict ds)
inductive DVs (H : Hp) : List V → List PyData → Prop
  | nil : DVs H [] []
  | cons {v : V} {vs : List V} {d : PyData} {ds : List PyData} : DV H v d → DVs H vs ds → DVs H (v :: vs) (d :: ds)
inductive DVk (H : Hp) : List (Key × V) → List (PyData × PyData) → Prop
  | nil : DVk H [] []
  | cons {k : Key} {v : V} {vs : List (Key × V)} {d : PyData} {ds : List (PyData × PyData)} : DV H v d → DVk H vs ds → DVk H ((k, v) :: vs) ((keyD k, d) :: ds)
end
mutual
theorem DV.mono {H H' : Hp} (e : ∀ a o, H a = some o → H' a = some o) : ∀ {v : V} {d : PyData}, DV H v d → DV H' v d
  | _, _, .non => .non
  | _, _, .bl b => .bl b
  | _, _, .int i => .int i
  | _, _, .str x => .str x
  | _, _, .lst h n r => .lst (e _ _ h) n (DVs.mono e r)
  | _, _, .tup h r => .tup (e _ _ h) (DVs.mono e r)
  | _, _, .dct h r => .dct (e _ _ h) (DVk.mono e r)
theorem DVs.mono {H H' : Hp} (e : ∀ a o, H a = some o → H' a = some o) : ∀ {vs : List V} {ds : List PyData}, DVs H vs ds → DVs H' vs ds
  | _, _, .nil => .nil
  | _, _, .cons h r => .cons (DV.mono e h) (DVs.mono e r)
theorem DVk.mono {H H' : Hp} (e : ∀ a o, H a = some o → H' a = some o) : ∀ {vs : List (Key × V)} {ds : List (PyData × PyData)}, DVk H vs ds → DVk H' vs ds
  | _, _, .nil => .nil
  | _, _, .cons h r => .cons (DV.mono e h) (DVk.mono e r)
end

section
variable {X : Cx} {pins : List (Addr × Obj)} {σ : L2.St} {H : Hp} {s : Shared}
theorem readsKey {w : World} {h : Heap} {k : Key} {v : Value} (e : keyIs k v = true) : Reads h v (keyD k) [] := by
  rcases keyIs_shape e with ⟨i, t, rfl, rfl⟩ | ⟨x, t, rfl, rfl⟩
  · exact .int i t
  · exact .str x t
mutual
theorem DV.reads (I : Inv X pins σ H s) : ∀ {v : V} {d : PyData} {u : Value}, DV H v d → RelV v u → ∃ as, Reads s.heap u d as ∧ sysModules ∉ as
  | _, _, u, .non, r => by
    cases (show u = Value.none from r)
    exact ⟨[], .none, by simp⟩
  | _, _, u, .bl b, r => by
    cases (show u = Value.bool b from r)
    exact ⟨[], .bool b, by simp⟩
  | _, _, u, .int i, r => by
    obtain ⟨t, rfl⟩ := (show ∃ t, u = Value.int i t from r)
    exact ⟨[], .int i t, by simp⟩
  | _, _, u, .str x, r => by
    obtain ⟨t, rfl⟩ := (show ∃ t, u = Value.str x t from r)
    exact ⟨[], .str x t, by simp⟩
  | _, _, u, @DV.lst _ a xs ds h n q, r => by
    cases (show u = Value.ref a from r)
    obtain ⟨_, its, m, rv, e⟩ := (show ObjOk X.prog X.w H s.heap a (.lst xs) from I.hok a _ h)
    obtain ⟨as, ra, na⟩ := DVs.reads I q rv
    refine ⟨a :: as, .list e rfl rfl ra, fun z => ?_⟩
    rcases List.mem_cons.mp z with z | z
    · exact n z.symm
    · exact na z
  | _, _, u, @DV.tup _ a xs ds h q, r => by
    cases (show u = Value.ref a from r)
    obtain ⟨_, its, rv, o, e1, e2, m, e3⟩ := (show ObjOk X.prog X.w H s.heap a (.tup xs) from I.hok a _ h)
    obtain ⟨as, ra, na⟩ := DVs.reads I q rv
    exact ⟨as, .tuple e1 e2 e3 ra, na⟩
  | _, _, u, @DV.dct _ a kvs ds h q, r => by
    cases (show u = Value.ref a from r)
    obtain ⟨_, ns, vs, rel, o, es, ep, e1, e2, e3, _, pr, _⟩ := (show ObjOk X.prog X.w H s.heap a (.dK kvs) from I.hok a _ h)
    obtain ⟨as, bs, k1, k2, n1, n2⟩ := DVk.reads I q rel pr
    refine ⟨a :: as ++ bs, .dict e1 e2.1 e3 k1 k2, fun z => ?_⟩
    have na : a ≠ sysModules := fun z => by
      rw [z] at ns
      simp at ns
    rcases List.mem_cons.mp z with z | z
    · exact na z.symm
    · rcases List.mem_append.mp z with z | z
      · exact n1 z
      · exact n2 z
theorem DVs.reads (I : Inv X pins σ H s) : ∀ {vs : List V} {ds : List PyData} {us : List Value}, DVs H vs ds → Vals vs us → ∃ as, ReadsAll s.heap us ds as ∧ sysModules ∉ as
  | _, _, _, .nil, .nil => ⟨[], .nil, by simp⟩
  | _, _, _, .cons h q, .cons r t => by
    obtain ⟨as, r1, n1⟩ := DV.reads I h r
    obtain ⟨bs, r2, n2⟩ := DVs.reads I q t
    exact ⟨as ++ bs, .cons r1 r2, fun z => (List.mem_append.mp z).elim n1 n2⟩
theorem DVk.reads (I : Inv X pins σ H s) : ∀ {kvs : List (Key × V)} {ds : List (PyData × PyData)} {vs : List (Key × Value)} {es : List DictEntry}, DVk H kvs ds → KV kvs vs → Pairs (mixKind X.prog X.w) es vs →
    ∃ as bs, ReadsAll s.heap (es.map (fun x => x.key)) (ds.map (fun x => x.1)) as ∧ ReadsAll s.heap (es.map (fun x => x.val)) (ds.map (fun x => x.2)) bs ∧ sysModules ∉ as ∧ sysModules ∉ bs
  | _, _, _, _, .nil, .nil, p => by
    cases p
    exact ⟨[], [], .nil, .nil, by simp, by simp⟩
  | _, _, _, _, .cons (k := k) h q, .cons r t, p => by
    cases p with
    | cons p1 p2 p3 =>
      obtain ⟨rk, rv⟩ := r
      rw [← rk, mixKind_is] at p1
      rw [← p2] at rv
      obtain ⟨as, r1, n1⟩ := DV.reads I h rv
      obtain ⟨bs, cs, r2, r3, n2, n3⟩ := DVk.reads I q t p3
      have rd := readsKey (w := X.w) (h := s.heap) p1
      exact ⟨[] ++ bs, as ++ cs, .cons rd r2, .cons r1 r3, by simpa using n2, fun z => (List.mem_append.mp z).elim n1 n3⟩
end

/-- repr(x), x a list, a tuple or a dict of data -/
def rRepr : List V → Hp → VK → Prop := fun xs H Q => ∃ (a : Addr) (d : PyData), xs = [.ref a] ∧ DV H (.ref a) d ∧ d.showable = true ∧ d.depth ≤ 60 ∧ d.shown.length ≤ sizeLine ∧ Q (.str d.shown) H
theorem call_repr (hG : X.A.guards = some []) (hu : X.A.units + 64 < cLine) : CallR X (.builtin "repr") rRepr := by
  intro pins s σ H xs us Q I r h
  obtain ⟨a, d, rfl, hd, hs, hp, hz, q⟩ := h
  cases r with
  | cons r1 r2 =>
    cases r2
    cases r1
    obtain ⟨as, rd, na⟩ := DV.reads I hd rfl
    exact repr_of_reads' rd hs (fun _ => na) hG (by omega) (fun _ _ e => e) (fun h' u tk k => ⟨.str d.shown, H, I.kept k, ⟨u, rfl⟩, q⟩) hz
end
end Nv

namespace PySem.W
open PySem PySem.Spec PySem.Calls PyProof.Rows
section
variable {prog : Program} {w : World} {A : Around} {E : Value → Shared → Prop} {s : Shared} {K : Frag} {x D : Addr} {ox : Obj} {od : Option Obj}
/-- what isinstance asks of the class D of an own exception -/
structure NvCls (K : Frag) (D : Addr) : Prop where
  ga : findIn K (.ref D) "__getattribute__" = some (some (.builtin "BaseException.__getattribute__"))
  gt : findIn K (.ref D) "__getattr__" = some none
  sub : subIn K (.ref D) (.type "BaseException") = some true
  dct : hasDictIn K D = true
  cl : findIn K (.ref D) "__class__" = some (some (.builtin "object.__class__"))
  sp : specialIn K (.builtin "object.__class__") "__get__" = some (some (.builtin "getset_descriptor.__get__"))
  tk : takesIn K (.builtin "object.__class__") = some true
  mo : mroIn K D (.type "object") = some true
theorem nv_find (c : NvCls K D) : findObj K D od "__class__" = some (.bind (.builtin "getset_descriptor.__get__") (.builtin "object.__class__")) := by
  have hs : (clsIn K D).isSome = true := by
    obtain ⟨cd, h, _⟩ := any_some c.dct
    rw [h]
    rfl
  cases od with
  | none => exact findObj_dataN hs c.cl c.sp c.tk
  | some o => exact findObj_data hs c.cl c.sp c.tk
theorem nv_class {Q : Option Value → Shared → Prop} (c : NvCls K D) (X : K.In s.heap) (I : InstAt s.heap x ox D od)
    (h : Q (some (.ref D)) { s with toks := s.toks + 1 }) : wpAny (model prog w) A (getAttr? (.ref x) "__class__") Q E s := by
  have e1 : (false && onTheHeap (Value.builtin "BaseException.__getattribute__")) = false := rfl
  have e2 : (Value.builtin "BaseException.__getattribute__" == Value.builtin "object.__getattribute__") = false := by decide +kernel
  have e3 : (onTheHeap (Value.ref D) && Value.builtin "BaseException.__getattribute__" == Value.builtin "object.__getattribute__") = false := by
    rw [e2]
    rfl
  obtain ⟨hp, g, d, t, os⟩ := s
  have T0 := I.type (M := model prog w)
  have T1 := looks_findIn (M := model prog w) X c.ga
  have T2 := looks_findIn (M := model prog w) X c.gt
  have T3 := looks_find (M := model prog w) X I (nv_find (od := od) c)
  have T4 : Looks (model prog w) hp (isInstance (.ref x) (.type "BaseException")) true := T0.andThen (looks_subIn X c.sub)
  unfold getAttr? getAttrBy? getAttrBy
  refine wpAny_bind (wpAny_mkText (wpAny_bind (wpAny_attempt ?_)))
  refine wpAny_holding (wpAny_bind (T0.at (wpAny_bind (T1.at ?_))))
  show wpAny _ _ (if (onTheHeap (Value.ref D) && Value.builtin "BaseException.__getattribute__" == Value.builtin "object.__getattribute__") = true then _ else _) _ _ _
  rw [e3, if_neg Bool.false_ne_true]
  unfold getAttrByItsOwn hookBefore
  refine wpAny_bind ?_
  rw [if_pos (show onTheHeap (Value.ref D) = true from rfl)]
  refine T2.at (wpAny_bind (wpAny_attempt (wpAny_holding ?_)))
  unfold callGetattribute
  rw [e1, if_neg Bool.false_ne_true]
  unfold boundAndCalled
  rw [PySem.F.excAttr_ValueError.ga.bind (.ref x)]
  refine wpAny_bind (wpAny_pure ?_)
  show wpAny _ _ (call (.builtin "BaseException.__getattribute__") [.ref x, .str "__class__" t]) _ _ _
  refine wpAny_call (codeAny_call_builtin PySem.F.excAttr_ValueError.ga.plain PySem.F.entry_bexc_ga ?_)
  refine @check_slot (model prog w) _ _ ⟨hp, g, d, t + 1, os⟩ "BaseException.__getattribute__" "BaseException" "__getattribute__" (.ref x)
    [.str "__class__" t] [] _ (by decide +kernel) (by decide +kernel) T4 (PySem.F.args_bexc_ga (.ref x) (.str "__class__" t)) ?_
  unfold Builtin.«object.__getattribute__»
  refine wpAny_bind (wpAny_of_eq (a := ((Value.ref x : Value), [Value.str "__class__" t])) (by first | rfl | (simp only [slotArgs]; rfl)) ?_)
  refine wpAny_bind (wpAny_pure (wpAny_bind (T0.at (wpAny_bind (T3.at ?_)))))
  show wpAny _ _ (holding [Value.builtin "object.__class__"] (call (.builtin "getset_descriptor.__get__") [.builtin "object.__class__", .ref x, .ref D]) >>= ret) _ _ _
  refine wpAny_bind (wpAny_holding (wpAny_call (class_get (s := ⟨hp, g, d, t + 1, os⟩) (ox := ox) (od := od) X I c.mo ?_)))
  refine wpAny_pure ?_
  show wpAny _ _ (handedOut (.ref D)) _ _ _
  rw [handedOut_of (v := .ref D) rfl]
  first
    | exact wpAny_pure (wpAny_pure h)
    | exact wpAny_pure h
    | exact wpAny_pure (wpAny_bind (wpAny_pure (wpAny_pure h)))
theorem nv_kit (c : NvCls K D) : KitX K (.ref x) (.ref D) (fun h => ∃ od, InstAt h x ox D od) := by
  obtain ⟨cdD, hcD, _⟩ := any_some c.dct
  refine ⟨fun _ _ _ ⟨_, I⟩ => I.type, fun _ _ X _ => ?_, fun h tp dd its n sl X htp => ?_, fun X ⟨_, I⟩ k => nv_class c X I k⟩
  · unfold clsIn at hcD
    split at hcD
    · rename_i ho
      intro A' Q' E' s' k q
      unfold isType loadHead
      exact wpAny_bind (wpAny_loadPart (k _ _ (X _ _ ho)) (wpAny_pure q))
    · cases hcD
  · cases q : (Value.ref D == Value.ref tp) with
    | false => rfl
    | true =>
      have e : D = tp := Value.ref.inj (beq_iff_eq.mp q)
      subst e
      unfold clsIn at hcD
      split at hcD
      · rename_i ho
        have z := (X _ _ ho).symm.trans htp
        cases z
      · cases hcD
end
end PySem.W
namespace Nv
open PySem PySem.Spec PyProof.Rows L2

/-- isinstance(e, c), e the exception that the suite holds, with a dict of its own or without -/
def rIsX (K : PySem.W.Frag) (cls : Value) (a : Addr) : List V → Hp → VK → Prop := fun xs H Q => ∃ (D : Addr) (c : V) (cv : Value) (b : Bool), xs = [.ref a, c] ∧ cls = .ref D ∧
  PySem.W.NvCls K D ∧ (∀ u, RelV c u → u = cv) ∧ PySem.W.kitOne K (.ref D) cv = some b ∧ (∀ dd, H dd = H dd) ∧ Q (.bl b) H
/-- the dict of the held exception, if it has one, stands in the heap -/
def XDict (H : Hp) (d : Option Addr) : Prop := ∀ dd, d = some dd → ∃ fs, H dd = some (.xd fs)
def rIsXd (K : PySem.W.Frag) (cls : Value) (d : Option Addr) (a : Addr) : List V → Hp → VK → Prop := fun xs H Q => ∃ (D : Addr) (c : V) (cv : Value) (b : Bool), xs = [.ref a, c] ∧ cls = .ref D ∧
  PySem.W.NvCls K D ∧ (∀ u, RelV c u → u = cv) ∧ PySem.W.kitOne K (.ref D) cv = some b ∧ XDict H d ∧ Q (.bl b) H
theorem call_isX {X : Cx} {a : Addr} {oe : Obj} {cls : Value} {d : Option Addr} {pn : List (Addr × Obj)} (hz : Zc cls d oe) (hf : ∃ vs, oe.data = .fields vs) :
    CallR (X.suite a ((a, oe) :: pn)) (.builtin "isinstance") (rIsXd X.K cls d a) := by
  intro pins s σ H xs us Q I r h
  obtain ⟨D, c, cv, b, rfl, rfl, C, hcv, e, hx, q⟩ := h
  cases r with
  | cons rx rr =>
    cases rr with
    | cons rt rr =>
      cases rr
      cases rx
      have ec := hcv _ rt
      subst ec
      obtain ⟨hget, _⟩ := I.pin (a, oe) (List.mem_append.mpr (.inl List.mem_cons_self))
      obtain ⟨vs, hv⟩ := hf
      have J : ∃ od, PySem.W.InstAt s.heap a oe D od := by
        have no : PySem.W.notCls oe = true := by
          unfold PySem.W.notCls
          rw [hv] <;> rfl
        cases d with
        | none => exact ⟨none, hget, hz.1, no, by rw [hz.2]; trivial⟩
        | some dd =>
          obtain ⟨fs, hd⟩ := hx dd rfl
          obtain ⟨mA, ⟨od, es, ep, ho, _⟩, _⟩ := (show ObjOk X.prog X.w H s.heap dd (.xd fs) from I.hok dd _ hd)
          exact ⟨some od, hget, hz.1, no, by rw [hz.2]; exact ho⟩
      exact PySem.W.kia_one (PySem.W.nv_kit C) I.kIn J e (fun z => nomatch z) fun tk => ⟨.bl b, H, I.kept (t' := tk) fun _ _ z => z, rfl, q⟩
end Nv

namespace Nv
open PySem PySem.Spec PyProof.Rows L2

/-- an except clause's class, the slot of its name, the reading of its suite -/
abbrev Cls3 := Value × Nat × (Addr → Value → Option Addr → TS)
/-- the ends behind a suite: its name is gone -/
def gone (i : Nat) (D : Ends) : Ends :=
  { nx := fun σ' H' => D.nx (σ'.set i none) H', rt := D.rt, bk := fun σ' H' => D.bk (σ'.set i none) H', ct := fun σ' H' => D.ct (σ'.set i none) H' }
def wAsN (K : PySem.W.Frag) (Wout : WX) (D : Ends) : List Cls3 → WX
  | [] => Wout
  | (c, i, ts) :: r => fun cls d σ H => ∃ b, PySem.W.exmOne K cls c = some b ∧
      (b = true → ∀ a, H a = none → ts a cls d (gone i D) (σ.set i (some (.ref a))) H) ∧ (b = false → wAsN K Wout D r cls d σ H)
inductive HdsAs (X : Cx) : List ExceptHandler → List Cls3 → Prop
  | nil : HdsAs X [] []
  | cons {x n : Str} {c : Value} {i : Nat} {ts : Addr → Value → Option Addr → TS} {b₀ : Stmt} {suite : List Stmt} {np pos' : Pos} {hds : List ExceptHandler} {l : List Cls3}
      (hi : X.N[i]? = some n) (hln : X.env.kindOf n = some .local) (hc : Names X x c)
      (hsu : ∀ (a : Addr) (oe : Obj) (cls : Value) (d : Option Addr) (pn : List (Addr × Obj)), Zc cls d oe → (∃ vs, oe.data = .fields vs) → PSs (X.suite a ((a, oe) :: pn)) (b₀ :: suite) (ts a cls d))
      (r : HdsAs X hds l) : HdsAs X (.ExceptHandler (some (.Name x np)) (some n) (b₀ :: suite) pos' :: hds) ((c, i, ts) :: l)

section
variable {X : Cx} {pins : List (Addr × Obj)} {σ : L2.St} {H : Hp}
theorem field_not_frame {B h : Heap} {l : List Env} {a : Addr} {o : Obj} {vs : Array Value} (ff : h.FunFrames B l) (e : h.get? a = some o) (dd : o.data = .fields vs) : a ∉ frs l := fun hm => by
  obtain ⟨_, o', e', hnf⟩ := ff.mem hm
  rw [e] at e'
  cases e'
  exact hnf _ dd
/-- the clauses, one behind another, at an exception that is on the ground -/
theorem clauses (hs : X.stack = X.env :: X.outer) (hf : X.env.frame = some X.env.locals) (hN : X.N.Nodup) {Wout : WX} (tk : Takes X Wout) {D : Ends} {sI s' : Shared} {a : Addr} {B h3 : Heap} {cls : Value} {d : Option Addr}
    (ok : X.Ok) (J : Inv X pins σ H sI) (nb : ∀ b o, sI.heap.get? b = some o → b ∉ frs X.stack → B.get? b = some o) (na : H a = none) (os : s'.os = sI.os) (ag : AllBare s'.gens)
    (up : sI.heap.UpToSlots s'.heap) (up3 : s'.heap.UpToSlots h3) (fl3 : HandSPX.FlyingZ B (X.env :: X.outer) a (Zc cls d) h3) :
    ∀ {hds : List ExceptHandler} {l : List Cls3}, HdsAs X hds l → wAsN X.K Wout D l cls d σ H → wpAny (model X.prog X.w) X.A (handleBy (.ref a) X.env hds) (SP X pins D) X.xe { s' with heap := h3 } := by
  have J3 : Inv X pins σ H { s' with heap := h3 } := J.landed nb fl3.1 (up.trans up3) os ag
  obtain ⟨oe3, vs3, he3, hz3, hd3⟩ := fl3.there
  have nfr := field_not_frame fl3.2.2.1 he3 hd3
  have nL : a ≠ X.env.locals := fun z => nfr (List.mem_filterMap.mpr ⟨X.env, List.mem_cons_self, by rw [hf, z]⟩)
  have nF : a ∉ X.fs := fun hm => by
    obtain ⟨e, he, q⟩ := List.mem_filterMap.mp hm
    exact nfr (List.mem_filterMap.mpr ⟨e, List.mem_cons_of_mem _ he, q⟩)
  have S3 := J3.suite he3 hd3 na nL nF
  intro hds l hk
  induction hk with
  | nil =>
    intro w
    refine wpAny_handleBy_nil ?_
    obtain ⟨_, _, _, oe, vs, T, oT, _, he, hz, hd, h1, _⟩ := id fl3
    unfold PySem.passOn
    refine wpAny_bind (wpAny_field he hd h1 ?_)
    rw [if_neg (show ¬ ((Value.ref T == Value.none) = true) from by simp)]
    have fin : wpAny (model X.prog X.w) X.A (setFlight (.ref a) X.env.frame) (fun _ s4 => wpAny (model X.prog X.w) X.A (throw (.ref a) : Sem Flow) (SP X pins D) X.xe s4) X.xe { s' with heap := h3 } := by
      rw [hf]
      refine HandSPX.setFlight_upZ fl3 ?_
      intro h4 hh4 up4
      refine wpAny_throw (tk _ _ ?_)
      exact ⟨a, B, sI, pins, σ, H, cls, d, rfl, J, nb, (up.trans up3).trans up4, .inr (.inr (by rw [hs]; exact hh4)), na, os, ag, w⟩
    first
      | exact wpAny_bind (wpAny_pure (wpAny_bind fin))
      | exact wpAny_bind fin
  | @cons x n c i ts b₀ suite np pos' hds2 l2 hi hln hc hsu r ih =>
    intro w
    obtain ⟨b, hb1, hyes, hno⟩ := w
    refine wpAny_handleBy_cons (codeAny_handlers_test ?_) (by intro q; cases q)
    have LT : PySem.W.Looks (model X.prog X.w) h3 (typeOf (.ref a)) cls := fun A Q E s k q => wpAny_typeOf_ref (k _ _ he3) (by rw [hz3.1]; exact q)
    have LM := PySem.W.exm_one (M := model X.prog X.w) (J3.kIn) LT hb1
    have test : ∀ {Q : Value → Shared → Prop} {E : Value → Shared → Prop}, Q c { s' with heap := h3 } →
        wpAny (model X.prog X.w) (X.A.mark (some (.ref a))) (eval (.Name x np) X.env) Q E { s' with heap := h3 } := by
      intro Q E q
      obtain ⟨hg, hdbg, hm | ⟨hm, hv, hnn⟩⟩ := hc
      · exact ld_glob (X := X.suite a ((a, oe3) :: (X.pn ++ pins))) S3 hg hm q hdbg
      · exact ld_blt (X := X.suite a ((a, oe3) :: (X.pn ++ pins))) S3 hg hm hv q hnn hdbg
    refine test (LM.here ?_)
    cases b with
    | false =>
      show wpAny _ X.A (handleBy (.ref a) X.env hds2) _ _ _
      exact ih (hno rfl)
    | true =>
      refine codeAny_handlers_suite_as ?_
      refine HandSPX.lands_againZ fl3 ?_
      intro h4 fl4 up4
      have J4 : Inv X pins σ H { s' with heap := h4 } := J.landed nb fl4.1 ((up.trans up3).trans up4) os ag
      obtain ⟨oe4, vs4, he4, hz4, hd4⟩ := fl4.there
      have S4 := J4.suite he4 hd4 na nL nF
      refine store_ok (X := X.suite a ((a, oe4) :: (X.pn ++ pins))) (v := .ref a) S4 hN hi (.inl hln) rfl ?_ (.inr hln)
      intro s5 S5
      refine wpAny_mono ((hsu a oe4 cls d (X.pn ++ pins) hz4 ⟨_, hd4⟩).run [] s5 _ H _ S5 (hyes rfl a na)) ?_ (fun _ _ z => z.elim)
      intro f s6 hsp
      have end_ : ∀ {σ6 : L2.St} {H6 : Hp} {Q : Shared → Prop}, Inv (X.suite a ((a, oe4) :: (X.pn ++ pins))) [] σ6 H6 s6 → (∀ s7, Inv X pins (σ6.set i none) H6 s7 → Q s7) →
          wpAny (model X.prog X.w) X.A (do bindName X.env n .none; unbindBehindTheSuite X.env n pos') (fun _ s7 => Q s7) X.xe s6 :=
        fun {σ6 H6 Q} S6 hq => gone_ok (S6.unsuite ok) hN hi hln hq
      cases f with
      | ret u =>
        obtain ⟨v6, σ6, H6, S6, r6, q6⟩ := hsp
        exact end_ S6 fun s7 J7 => ⟨_, _, _, J7, r6, q6⟩
      | next =>
        obtain ⟨σ6, H6, S6, q6⟩ := hsp
        exact end_ S6 fun s7 J7 => ⟨_, _, J7, q6⟩
      | brk =>
        obtain ⟨σ6, H6, S6, q6⟩ := hsp
        exact end_ S6 fun s7 J7 => ⟨_, _, J7, q6⟩
      | cont =>
        obtain ⟨σ6, H6, S6, q6⟩ := hsp
        exact end_ S6 fun s7 J7 => ⟨_, _, J7, q6⟩

/-- try: body / except x1 as n1: .. / except x2 as n2: .. -/
theorem ps_try_asN {body : List Stmt} {h₀ : ExceptHandler} {hds : List ExceptHandler} {l : List Cls3} {pos : Pos} {tb : WX → TS} {Wout : WX}
    (hs : X.stack = X.env :: X.outer) (hf : X.env.frame = some X.env.locals) (hN : X.N.Nodup) (tk : Takes X Wout)
    (hb : ∀ (W : WX) (pn : List (Addr × Obj)) (xe : Value → Shared → Prop), Takes (X.tr pn xe) W → PassesOwn (model X.prog X.w) X.A X.env xe → PSs (X.tr pn xe) body (tb W))
    (hh : HdsAs X (h₀ :: hds) l) : PS X (.Try body (h₀ :: hds) [] [] pos) (fun D σ H => tb (wAsN X.K Wout D l) D σ H) := by
  constructor
  intro pins s σ H D I h
  have ok := I.ok
  have hfr : X.A.frames = some (X.env :: X.outer) := by rw [ok.frames, hs]
  refine wpAny_Try_except ?_
  have run := (hb (wAsN X.K Wout D l) (X.pn ++ pins) (fun e s₁ => wpAny (model X.prog X.w) X.A (noteFrame e X.env)
    (fun _ s₂ => wpAny (model X.prog X.w) X.A (setFlight e none) (fun _ s₃ => wpAny (model X.prog X.w) X.A (handleBy e X.env (h₀ :: hds)) (SP X pins D) X.xe s₃) X.xe s₂) X.xe s₁) ?_ PassesOwn.looking).run [] s σ H D (I.toTry _) h
  · refine wpAny_mono run ?_ (fun e s1 he => he)
    intro f s1 hsp
    cases f with
    | next =>
      obtain ⟨σ', H', J', q⟩ := hsp
      exact wpAny_execs_nil ⟨σ', H', J'.ofTry ok, q⟩
    | brk =>
      obtain ⟨σ', H', J', q⟩ := hsp
      exact ⟨σ', H', J'.ofTry ok, q⟩
    | cont =>
      obtain ⟨σ', H', J', q⟩ := hsp
      exact ⟨σ', H', J'.ofTry ok, q⟩
    | ret u =>
      obtain ⟨v, σ', H', J', r, q⟩ := hsp
      exact ⟨v, σ', H', J'.ofTry ok, r, q⟩
  · intro u s' xx
    obtain ⟨a, B, sI, pins', σ', H', cls, d, rfl, J', nb, up, sky, na, os, ag, w⟩ := xx
    have J : Inv X pins σ' H' sI := J'.ofTry ok
    have sky' : Sky B (X.env :: X.outer) a (Zc cls d) X.env.locals s'.heap := by
      rw [← hs]
      exact sky
    show wpAny (model X.prog X.w) X.A (noteFrame (.ref a) X.env) _ _ _
    refine Sky.land Zc.steady hfr hf sky' ?_
    intro h3 fl3 up3
    exact clauses hs hf hN tk ok J nb na os ag up up3 fl3 hh w
end
end Nv

namespace Nv
open PySem PySem.Spec PyProof.Rows L2

/-! own errors with one attribute -/
def spXI (K : PySem.W.Frag) (f : Str) : Sp := fun vs H Q _ => ∃ (a C : Addr) (v : V), vs = [.ref a, v] ∧ OexC K C ∧ PySem.W.findIn K (.ref C) f = some none ∧
  H a = some (exo a C none) ∧ ∀ dx, H dx = none → dx ≠ a → Q .non (upd (upd H dx (exd dx [(f, v)])) a (exo a C (some dx)))
section
variable {P : Program} {w : World} {K : PySem.W.Frag} {mg : Str → Option Value} {base : Heap}
theorem ok_xi {qual f : Str} {st : Stmt} {fI : Addr} {fd : FuncData} {p1 p2 p3 p4 : Pos} (F : Fun K "__init__" qual st fI fd) (S : FnScope ["self", f] ["self", f] (defScope st))
    (hb : defBody st = [.Assign [.Attribute (.Name "self" p1) f p2] (.Name f p3) p4]) (hd : (f == ("__debug__" : Str)) = false) (hcd : (f == ("__classdict__" : Str)) = false) :
    FnOk P w K mg base CX0 1 fI fd ["self", f] (spXI K f) := by
  refine F.ok S (fun vs H Q E h => ?_) (fun cdv A outer s H vs Q E hr h => ?_)
  · obtain ⟨a, C, v, rfl, _⟩ := h
    rfl
  · obtain ⟨a, C, v, rfl, T, hn, he, q⟩ := h
    have v0 : Vis (defScope st) "self" := by
      rcases S.par "self" (by simp) with z | z
      · exact .inl z
      · exact .inr (.inl z)
    have v1 : Vis (defScope st) f := by
      rcases S.par f (by simp) with z | z
      · exact .inl z
      · exact .inr (.inl z)
    rw [hb]
    refine ⟨_, pss_one (ps_ost (pe_var (i := 0) rfl v0) (pe_var (i := 1) rfl v1 hd hcd) rfl), ?_⟩
    exact ⟨_, rfl, _, rfl, a, C, rfl, T, hn, .inl ⟨he, fun dx h1 h2 => q dx h1 h2⟩⟩
end
/-- what stands of an own error class with one attribute f: at C, its __init__ at fI -/
structure ErrT (K : PySem.W.Frag) (mg : Str → Option Value) (x f : Str) (C fI : Addr) : Prop where
  gC : mg x = some (.ref C)
  T : OexC K C
  iC : PySem.W.findIn K (.ref C) "__init__" = some (some (.ref fI))
  tI : PySem.W.typeIn K (.ref fI) = some (.type "function")
  noF : PySem.W.findIn K (.ref C) f = some none
  nv : PySem.W.NvCls K C
theorem ErrT.xf {K : PySem.W.Frag} {mg : Str → Option Value} {x f : Str} {C fI : Addr} (T : ErrT K mg x f C fI) : XfC K C := ⟨T.nv.ga, T.nv.gt, T.nv.sub, T.nv.dct⟩
section
variable {X : Cx} {W : WX} {e : Expr} {te : TE} {p pos pos2 : Pos} {x f : Str} {C fI : Addr} {fd : FuncData}
theorem pmk_imp {t t' : L2.St → Hp → XK → Prop} (h : PMk X e t) (i : ∀ σ H Q, t' σ H Q → t σ H Q) : PMk X e t' := fun pins s σ H Q I q => h pins s σ H Q I (i _ _ _ q)
/-- C(e): a new error -/
def tErr (C : Addr) (f : Str) (te : TE) : L2.St → Hp → XK → Prop := fun σ H Q => te σ H fun v H1 => ∀ d, H1 d = none → Q (.ref C) (some d) (upd H1 d (.xd [(f, v)]))
theorem exo_end {H1 : Hp} {a dx C : Addr} {f : Str} {v : V} (na : H1 a = none) (nd : dx ≠ a) : upd (del (upd (upd (upd H1 a (exo a C none)) dx (exd dx [(f, v)])) a (exo a C (some dx))) a) dx (.xd [(f, v)]) = upd H1 dx (.xd [(f, v)]) := by
  funext b
  by_cases h : b = dx
  · subst h
    rw [upd_same, upd_same]
  · rw [upd_ne h, upd_ne h]
    by_cases g : b = a
    · subst g
      rw [del_same, na]
    · rw [del_ne g, upd_ne g, upd_ne h, upd_ne g]
/-- one argument, its reading made monotone -/
theorem pa_any (he : PE X e te) (hs : starEach (e :: []) X.env = (false, eval e X.env) :: starEach [] X.env := by rfl) :
    PA X [e] (fun σ H Q => ∃ R : V → Hp → Prop, te σ H R ∧ ∀ v H1, R v H1 → Q [v] H1) := by
  constructor
  intro pos pins s σ H Q I ⟨R, h, k⟩
  have z := (pa_cons he pa_nil hs).run pos pins s σ H (fun vs H1 => ∃ v, vs = [v] ∧ R v H1) I
  have z2 : te σ H (fun v H1 => R v H1) := h
  have he2 : PE X e (fun σ' H' Q' => te σ' H' R ∧ ∀ v H1, R v H1 → Q' v H1) := by
    constructor
    intro pins s σ H Q I ⟨h1, h2⟩
    exact thn (he.run pins s σ H R I h1) fun u s1 ⟨v, H1, I1, r, q⟩ => ⟨v, H1, I1, r, h2 v H1 q⟩
  exact (pa_cons he2 pa_nil hs).run pos pins s σ H Q I ⟨h, fun v H1 q => k v H1 q⟩
theorem pmk_err (T : ErrT X.K X.mg x f C fI) (F : FnOk X.prog X.w X.K X.mg X.base CX0 1 fI fd ["self", f] (spXI X.K f)) (hb : Binds X.K fd ["self", f] []) (hr : Room 2 X.A) (he : PE X e te) (hg : Gl X x := by rfl)
    (hdb : (x == ("__debug__" : Str)) = false := by decide) (hs : starEach (e :: []) X.env = (false, eval e X.env) :: starEach [] X.env := by rfl) (hpl : (backTo pos (starEach [] X.env)).any (·.1) = false := by rfl) :
    PMk X (.Call (.Name x p) [e] [] pos) (tErr C f te) := by
  refine pmk_imp (pmk_oex (CX := CX0) (dvs := []) (ds := []) T.T T.iC T.tI F hr hb .nil pass0 hg T.gC (pa_any he hs) hdb hs hpl) ?_
  intro σ H Q h
  refine ⟨_, h, fun v H1 k => ⟨by show 1 ≤ 1000; decide, fun a na => ?_⟩⟩
  refine ⟨a, C, v, rfl, T.T, T.noF, upd_same, fun dx h1 h2 => ⟨rfl, dx, [(f, v)], upd_same, ?_, ?_, ?_⟩⟩
  · rw [upd_ne h2, upd_same]
  · rw [upd_ne h2] at h1
    exact h1
  · rw [exo_end na h2]
    rw [upd_ne h2] at h1
    exact k dx h1
/-- raise C(e) -/
def tRaise1 (C : Addr) (f : Str) (W : WX) (te : TE) : TS := fun _ σ H => tErr C f te σ H fun cls d H' => W cls d σ H'
theorem ps_err (hc : X.calm = true) (tk : Takes X W) (T : ErrT X.K X.mg x f C fI) (F : FnOk X.prog X.w X.K X.mg X.base CX0 1 fI fd ["self", f] (spXI X.K f)) (hb : Binds X.K fd ["self", f] []) (hr : Room 2 X.A) (he : PE X e te) (hg : Gl X x := by rfl)
    (hdb : (x == ("__debug__" : Str)) = false := by decide) (hs : starEach (e :: []) X.env = (false, eval e X.env) :: starEach [] X.env := by rfl) (hpl : (backTo pos (starEach [] X.env)).any (·.1) = false := by rfl) :
    PS X (.Raise (some (.Call (.Name x p) [e] [] pos)) none pos2) (tRaise1 C f W te) := ps_raise hc tk (pmk_err T F hb hr he hg hdb hs hpl)
end

/-! displays whose place is not that of sys.modules -/
section
variable {X : Cx} {es : List Expr} {t : TA} {pos : Pos}
def tLst1 (t : TA) : TE := fun σ H Q => t σ H fun xs H1 => xs.length ≤ sizeLine ∧ ∀ p, H1 p = none → p ≠ sysModules → Q (.ref p) (upd H1 p (.lst xs))
theorem pe_lst1 (h : PA X es t) : PE X (.List es pos) (tLst1 t) := by
  constructor
  intro pins s σ H Q I hq
  refine wpAny_List_spliced (thn (h.run pos pins s σ H _ I hq) ?_)
  intro us s1 ⟨xs, H1, I1, r, z, q⟩
  have hf : H1 s1.heap.objs.size = none := I1.hok.fresh (Nat.le_refl _)
  refine ⟨by rw [← r.length]; exact z, ?_⟩
  refine ⟨.ref s1.heap.objs.size, upd H1 s1.heap.objs.size (.lst xs), I1.laid (t' := s1.toks) (fun b u e => Heap.get?_push_of_some _ e) (Nat.le_refl _) ?_, rfl, q _ hf (Nat.ne_of_gt I1.big)⟩
  exact ⟨z, us, 0, r, Heap.get?_push_size _ rfl⟩
end
end Nv

namespace Nv
open PySem PySem.Spec PyProof.Rows L2

/-! a def, a method, an __init__ of the text as they stand behind the top -/
structure DefT (K : PySem.W.Frag) (mg : Str → Option Value) (x : Str) (st : Stmt) (ps : List Str) : Type where
  f : Addr
  fd : FuncData
  F : Fun K x x st f fd
  m : mg x = some (.ref f)
  b : Pos1 fd ps
  kb : Kw1 fd ps ps 0
structure MethT (K : PySem.W.Frag) (C : Addr) (x qual : Str) (st : Stmt) (ps : List Str) : Type where
  f : Addr
  fd : FuncData
  F : Fun K x qual st f fd
  me : Meth K C x f
  b : Pos1 fd ps
  kb : Kw1 fd ps ps.tail 1
structure InitT (K : PySem.W.Frag) (C : Addr) (qual : Str) (st : Stmt) (ps : List Str) : Type where
  f : Addr
  fd : FuncData
  F : Fun K "__init__" qual st f fd
  bi : Binds K fd ps []
structure PropT (K : PySem.W.Frag) (C : Addr) (x qual : Str) (st : Stmt) : Type where
  p : Addr
  g : Addr
  fd : FuncData
  F : Fun K x qual st g fd
  po : PropOf K C x p g
  bi : Binds K fd ["self"] []

/-- a body that lets nothing out -/
theorem okG0 {P : Program} {w : World} {K : PySem.W.Frag} {mg : Str → Option Value} {base : Heap} {k : Nat} {f : Addr} {fd : FuncData} {ps : List Str} {sp : Sp} {x qual : Str} {st : Stmt} {N : List Str}
    (F : Fun K x qual st f fd) (S : FnScope N ps (defScope st)) (len : ∀ vs H Q E, sp vs H Q E → vs.length = ps.length)
    (body : ∀ (cdv : Value) (A : Around) (outer : List Env) (s : Shared) (H : Hp) (vs : List V) (Q : VK) (E : XK),
      A.guards = some [] → Room k (A.deeper (envOfC qual (defScope st) s.heap.objs.size f cdv)) → sp vs H Q E →
      ∃ t, PSs (cxOf (L2.CX P w) P w K mg base N qual (defScope st) f cdv A outer s H E).nox (defBody st) t ∧
        t { nx := fun _ H' => Q .non H', rt := Q } (start N vs) H) : FnG P w K mg base (k + 1) f fd ps sp :=
  okG F S len fun cdv A outer s H vs Q E hg hr hsp => by
    obtain ⟨t, h, q⟩ := body cdv A outer s H vs Q E hg hr hsp
    exact ⟨t, h.nox, q⟩

/-! the kinds of data -/
def tyName : PyData → String
  | .none => "NoneType"
  | .bool _ => "bool"
  | .int _ => "int"
  | .str _ => "str"
  | .list _ => "list"
  | .tuple _ => "tuple"
  | .dict _ => "dict"
theorem DV.ty {K : PySem.W.Frag} {H : Hp} {v : V} {d : PyData} (h : DV H v d) : TyX K H v (.type (tyName d)) := by
  cases h with
  | non => exact .base .non
  | bl b => exact .base (.bl b)
  | int i => exact .base (.int i)
  | str x => exact .base (.str x)
  | lst e _ _ => exact .base (.lst e)
  | tup e _ => exact .base (.tup e)
  | dct e _ => exact .base (.dK e)
theorem r_isi {K : PySem.W.Frag} {H : Hp} {Q : VK} {v : V} {d : PyData} {T : String} {b : Bool} (h : DV H v d) (e : kitB (tyName d) T = some b) (q : Q (.bl b) H) : rIsi K [v, .ty T] H Q :=
  ⟨v, .ty T, _, _, b, rfl, .ty T, h.ty, kit_ty e, q⟩
def isI : PyData → Bool
  | .int _ => true
  | _ => false
def isB : PyData → Bool
  | .bool _ => true
  | _ => false
def isS : PyData → Bool
  | .str _ => true
  | _ => false
def isL : PyData → Bool
  | .list _ => true
  | _ => false
theorem kit_int (d : PyData) : kitB (tyName d) "int" = some (isI d || isB d) := by
  cases d with
  | none => exact (by decide +kernel : kitB "NoneType" "int" = some false)
  | bool b => exact (by decide +kernel : kitB "bool" "int" = some true)
  | int i => exact (by decide +kernel : kitB "int" "int" = some true)
  | str x => exact (by decide +kernel : kitB "str" "int" = some false)
  | list l => exact (by decide +kernel : kitB "list" "int" = some false)
  | tuple l => exact (by decide +kernel : kitB "tuple" "int" = some false)
  | dict l => exact (by decide +kernel : kitB "dict" "int" = some false)
theorem kit_bool (d : PyData) : kitB (tyName d) "bool" = some (isB d) := by
  cases d with
  | none => exact (by decide +kernel : kitB "NoneType" "bool" = some false)
  | bool b => exact (by decide +kernel : kitB "bool" "bool" = some true)
  | int i => exact (by decide +kernel : kitB "int" "bool" = some false)
  | str x => exact (by decide +kernel : kitB "str" "bool" = some false)
  | list l => exact (by decide +kernel : kitB "list" "bool" = some false)
  | tuple l => exact (by decide +kernel : kitB "tuple" "bool" = some false)
  | dict l => exact (by decide +kernel : kitB "dict" "bool" = some false)
theorem kit_str (d : PyData) : kitB (tyName d) "str" = some (isS d) := by
  cases d with
  | none => exact (by decide +kernel : kitB "NoneType" "str" = some false)
  | bool b => exact (by decide +kernel : kitB "bool" "str" = some false)
  | int i => exact (by decide +kernel : kitB "int" "str" = some false)
  | str x => exact (by decide +kernel : kitB "str" "str" = some true)
  | list l => exact (by decide +kernel : kitB "list" "str" = some false)
  | tuple l => exact (by decide +kernel : kitB "tuple" "str" = some false)
  | dict l => exact (by decide +kernel : kitB "dict" "str" = some false)
theorem kit_list (d : PyData) : kitB (tyName d) "list" = some (isL d) := by
  cases d with
  | none => exact (by decide +kernel : kitB "NoneType" "list" = some false)
  | bool b => exact (by decide +kernel : kitB "bool" "list" = some false)
  | int i => exact (by decide +kernel : kitB "int" "list" = some false)
  | str x => exact (by decide +kernel : kitB "str" "list" = some false)
  | list l => exact (by decide +kernel : kitB "list" "list" = some true)
  | tuple l => exact (by decide +kernel : kitB "tuple" "list" = some false)
  | dict l => exact (by decide +kernel : kitB "dict" "list" = some false)

/-! str * int -/
def rMulS : R2 := fun x y H Q => ∃ (z : Str) (k : Int), x = .str z ∧ y = .int k ∧ PySem.MulOk z k ∧ Q (.str (Txt.mul z k)) H
theorem op_mul_str {X : Cx} : OpR X (binaryOp .Mult) rMulS := by
  intro pins s σ H x y v u Q I rx ry h
  obtain ⟨z, k, rfl, rfl, hok, q⟩ := h
  obtain ⟨t, rfl⟩ := (show ∃ t, v = Value.str z t from rx)
  obtain ⟨t2, rfl⟩ := (show ∃ t, u = Value.int k t from ry)
  exact PySem.SB.mul hok fun t' tk => ⟨.str (Txt.mul z k), H, I.tok tk, ⟨t', rfl⟩, q⟩

/-! heaps -/
/-- all that was tracked stands as it was, but what stands at p -/
def Ext1 (p : Addr) (H H' : Hp) : Prop := ∀ a o, a ≠ p → H a = some o → H' a = some o
theorem Ext1.refl (p : Addr) (H : Hp) : Ext1 p H H := fun _ _ _ h => h
theorem Ext1.trans {p : Addr} {H H1 H2 : Hp} (a : Ext1 p H H1) (b : Ext1 p H1 H2) : Ext1 p H H2 := fun c o n h => b c o n (a c o n h)
theorem Same.ext1 {p : Addr} {H H' : Hp} (e : Same H H') : Ext1 p H H' := fun a o _ h => e a o h
theorem Same.new {H : Hp} {p : Addr} {o : HO} (n : H p = none) : Same H (upd H p o) := fun b u e => by
  rw [upd_ne (ne_of_none e n)]
  exact e
theorem Ext1.upd {p : Addr} {H : Hp} {o : HO} : Ext1 p H (upd H p o) := fun a u n h => by
  rw [upd_ne n]
  exact h
end Nv

namespace Nv
open PySem PySem.Spec PyProof.Rows L2

/-! what a step asks of the heap, kept whole -/
def rFld (K : PySem.W.Frag) (f : Str) : V → Hp → VK → Prop := fun x H Q => ∃ a C dx fs v, x = .ref a ∧ H a = some (.ins C dx fs) ∧ Cls K C ∧ NoAttr K C f ∧ fs.lookup f = some v ∧ Q v H
def rStF (K : PySem.W.Frag) (f : Str) : V → V → Hp → (Hp → Prop) → Prop := fun x y H R => ∃ a C dx fs, x = .ref a ∧ H a = some (.ins C dx fs) ∧ Cls K C ∧ NoAttr K C f ∧ fs.length < 1000 ∧ R (upd H a (.ins C dx (putF f y fs)))
def rMeth (C : Addr) (m : Str) : V → Hp → (Hp → Prop) → Prop := fun x H R => ∃ a dx fs, x = .ref a ∧ H a = some (.ins C dx fs) ∧ fs.lookup m = none ∧ R H
def rPrp (C : Addr) (sp : Sp) (dvs : List V) (E : XK) : V → Hp → VK → Prop := fun x H Q => ∃ a dx fs, x = .ref a ∧ H a = some (.ins C dx fs) ∧ sp (.ref a :: dvs) H Q E
/-- a new object's heap by a name of its own -/
theorem gen_new {H : Hp} {p : Addr} (o : HO) (h : H p = none) : ∃ H', upd H p o = H' ∧ Same H H' ∧ H' p = some o :=
  ⟨_, rfl, fun b u e => by rw [upd_ne (ne_of_none e h)]; exact e, upd_same⟩
def rXf (a : Addr) (cls : Value) (d : Option Addr) (C : Addr) (f : Str) : V → Hp → VK → Prop := fun x H Q => x = .ref a ∧ cls = .ref C ∧ ∃ (dd : Addr) (fs : List (Str × V)) (v : V), d = some dd ∧ H dd = some (.xd fs) ∧ fs.lookup f = some v ∧ Q v H
theorem e_xf {a : Addr} {cls : Value} {d : Option Addr} {C : Addr} {f : Str} {te : TE} {σ : L2.St} {H : Hp} {Q : VK} : tXf a cls d C f te σ H Q = te σ H (fun x H1 => rXf a cls d C f x H1 Q) := rfl
theorem r_xf {a dd C : Addr} {f : Str} {v : V} {H : Hp} {Q : VK} (h : H dd = some (.xd [(f, v)])) (q : Q v H) : rXf a (.ref C) (some dd) C f (.ref a) H Q :=
  ⟨rfl, rfl, dd, _, v, rfl, h, by simp [List.lookup], q⟩
theorem r_isX {K : PySem.W.Frag} {D U dd a : Addr} {f : Str} {v : V} {H : Hp} {Q : VK} {b : Bool} (n : PySem.W.NvCls K D) (k : PySem.W.kitOne K (.ref D) (.ref U) = some b) (h : H dd = some (.xd [(f, v)])) (q : Q (.bl b) H) :
    rIsXd K (.ref D) (some dd) a [.ref a, .ref U] H Q := ⟨D, .ref U, .ref U, b, rfl, rfl, n, fun u r => r, k, fun x e => by cases e; exact ⟨_, h⟩, q⟩
theorem e_wipe0 {σ : L2.St} : wipe σ [] = σ := rfl
theorem e_wipe1 {σ : L2.St} {v : Nat} {vs : List Nat} : wipe σ (v :: vs) = (wipe σ vs).set v none := rfl
theorem e_disp {trs : List (TE × TE)} {σ : L2.St} {H : Hp} {Q : VK} : tDisp trs σ H Q = ∀ p, H p = none → tPairs trs σ (upd H p (.dK [])) fun ps H2 => H2 p = some (.dK []) ∧ ∃ kvs : List (Key × V), ps = kvs.map (fun kv => (kV kv.1, kv.2)) ∧ kvs.length ≤ 15 ∧ Q (.ref p) (upd H2 p (.dK (mergeK [] kvs))) := rfl
theorem e_tyes {σ : L2.St} {H : Hp} {R : Bool → Hp → Prop} : tYes σ H R = R true H := rfl
def rP2 (k : V → V → Prop) (vs : List V) : Prop := ∃ v w, vs = [v, w] ∧ k v w
def rP3 (k : V → V → V → Prop) (vs : List V) : Prop := ∃ u v w, vs = [u, v, w] ∧ k u v w
theorem e_rP2 {k : V → V → Prop} {a b : V} : rP2 k [a, b] = k a b := propext ⟨fun ⟨_, _, e, h⟩ => by cases e; exact h, fun h => ⟨_, _, rfl, h⟩⟩
theorem e_rP3 {k : V → V → V → Prop} {a b c : V} : rP3 k [a, b, c] = k a b c := propext ⟨fun ⟨_, _, _, e, h⟩ => by cases e; exact h, fun h => ⟨_, _, _, rfl, h⟩⟩
def rUnp (K : PySem.W.Frag) (n : Nat) : V → Hp → (List V → Prop) → Prop := fun v H R => ∃ a xs, v = .ref a ∧ SqT K H a xs ∧ xs.length = n ∧ R xs
theorem r_fld {K : PySem.W.Frag} {f : Str} {a C dx : Addr} {fs : List (Str × V)} {v : V} {H : Hp} {Q : VK} (h : H a = some (.ins C dx fs)) (c : Cls K C) (n : NoAttr K C f) (l : fs.lookup f = some v) (q : Q v H) : rFld K f (.ref a) H Q :=
  ⟨a, C, dx, fs, v, rfl, h, c, n, l, q⟩
theorem r_stF {K : PySem.W.Frag} {f : Str} {a C dx : Addr} {fs : List (Str × V)} {y : V} {H : Hp} {R : Hp → Prop} (h : H a = some (.ins C dx fs)) (c : Cls K C) (n : NoAttr K C f) (l : fs.length < 1000) (q : R (upd H a (.ins C dx (putF f y fs)))) : rStF K f (.ref a) y H R :=
  ⟨a, C, dx, fs, rfl, h, c, n, l, q⟩
theorem r_meth {C a dx : Addr} {m : Str} {fs : List (Str × V)} {H : Hp} {R : Hp → Prop} (h : H a = some (.ins C dx fs)) (l : fs.lookup m = none) (q : R H) : rMeth C m (.ref a) H R := ⟨a, dx, fs, rfl, h, l, q⟩
theorem r_prp {C a dx : Addr} {sp : Sp} {dvs : List V} {E : XK} {fs : List (Str × V)} {H : Hp} {Q : VK} (h : H a = some (.ins C dx fs)) (q : sp (.ref a :: dvs) H Q E) : rPrp C sp dvs E (.ref a) H Q := ⟨a, dx, fs, rfl, h, q⟩
theorem r_unp {K : PySem.W.Frag} {n : Nat} {a : Addr} {xs : List V} {H : Hp} {R : List V → Prop} (h : SqT K H a xs) (l : xs.length = n) (q : R xs) : rUnp K n (.ref a) H R := ⟨a, xs, rfl, h, l, q⟩
theorem r_setL {p : Addr} {i : Int} {xs : List V} {j : Nat} {v : V} {H : Hp} {R : Hp → Prop} (h : H p = some (.lst xs)) (e : ixN xs.length i = some j) (q : R (upd H p (.lst (xs.set j v)))) : rSetL (.ref p) (.int i) v H R := ⟨p, xs, i, j, rfl, rfl, h, e, q⟩
/-! the readings, one step each, as equations -/
section
variable {σ : L2.St} {H : Hp} {Q : VK} {D : Ends} {t u : TS} {ta tb te tc : TE} {tt tu : TT} {tr : TA} {to th tl : TO} {i j l : Nat} {v x y : V} {r : R2} {K : PySem.W.Frag} {f : Str} {g : TG} {gs : TGs}
theorem e_seq : tSeq t u D σ H = t { D with nx := u D } σ H := rfl
theorem e_next : tNext D σ H = D.nx σ H := rfl
theorem e_asg : tAsg te g D σ H = te σ H (fun x H1 => g x σ H1 D.nx) := rfl
theorem e_gname {R : L2.St → Hp → Prop} : gName i v σ H R = R (σ.set i (some v)) H := rfl
theorem e_gtup {n : Nat} {R : L2.St → Hp → Prop} : gTup K n gs v σ H R = rUnp K n v H (fun xs => gs xs σ H R) := rfl
theorem e_gcons {a : V} {vs : List V} {R : L2.St → Hp → Prop} : gCons g gs (a :: vs) σ H R = g a σ H (fun σ' H' => gs vs σ' H' R) :=
  propext ⟨fun ⟨_, _, e, h⟩ => by cases e; exact h, fun h => ⟨_, _, rfl, h⟩⟩
theorem e_gnil {R : L2.St → Hp → Prop} : gNil [] σ H R = R σ H := propext ⟨fun h => h.2, fun h => ⟨rfl, h⟩⟩
theorem e_gsub {s : TSet} {R : L2.St → Hp → Prop} : gSub ta tb s v σ H R = ta σ H (fun o H1 => tb σ H1 fun i H2 => s o i v H2 fun H3 => R σ H3) := rfl
theorem e_ret : tRet te D σ H = te σ H D.rt := rfl
theorem e_retN : tRetN D σ H = D.rt .non H := rfl
theorem e_if : tIfS tt t u D σ H = tt σ H (fun b H1 => if b = true then t D σ H1 else u D σ H1) := rfl
theorem e_drop : tDrop te D σ H = te σ H (fun _ H1 => D.nx σ H1) := rfl
theorem e_par : tPar i j tr D σ H = tr σ H (fun vs H1 => rP2 (fun v w => D.nx ((σ.set i (some v)).set j (some w)) H1) vs) := rfl
theorem e_par3 : tPar3 i j l tr D σ H = tr σ H (fun vs H1 => rP3 (fun u v w => D.nx (((σ.set i (some u)).set j (some v)).set l (some w)) H1) vs) := rfl
theorem e_sfld : sFld K ta te f D σ H = te σ H (fun y H1 => ta σ H1 fun x H2 => rStF K f x y H2 fun H3 => D.nx σ H3) := rfl
theorem e_var : tVar i σ H Q = ∃ v, σ[i]? = some (some v) ∧ Q v H := rfl
theorem e_c : tC v σ H Q = Q v H := rfl
theorem e_op : tOp r ta tb σ H Q = ta σ H (fun x H1 => tb σ H1 fun y H2 => r x y H2 Q) := rfl
theorem e_un {ru : V → Hp → VK → Prop} : tUn ru ta σ H Q = ta σ H (fun x H1 => ru x H1 Q) := rfl
theorem e_ri {C : Int → Int → Prop} {g : Int → Int → V} {a b : Int} : rI C g (.int a) (.int b) H Q = (C a b ∧ Q (g a b) H) :=
  propext ⟨fun ⟨_, _, e1, e2, c, q⟩ => by cases e1; cases e2; exact ⟨c, q⟩, fun ⟨c, q⟩ => ⟨_, _, rfl, rfl, c, q⟩⟩
theorem e_ri0 {g : Int → Int → V} {a b : Int} : rI0 g (.int a) (.int b) H Q = Q (g a b) H :=
  propext ⟨fun ⟨_, _, e1, e2, q⟩ => by cases e1; cases e2; exact q, fun q => ⟨_, _, rfl, rfl, q⟩⟩
theorem e_ru {g : Int → V} {a : Int} : rU g (.int a) H Q = Q (g a) H :=
  propext ⟨fun ⟨_, e1, q⟩ => by cases e1; exact q, fun q => ⟨_, rfl, q⟩⟩
theorem e_eq : rEq x y H Q = (scal x y = true ∧ Q (.bl (decide (x = y))) H) := rfl
theorem e_ne : rNe x y H Q = (scal x y = true ∧ Q (.bl (!decide (x = y))) H) := rfl
theorem e_test {R : Bool → Hp → Prop} : tTest te σ H R = te σ H (fun x H' => ∃ k, x = .bl k ∧ R k H') := rfl
theorem e_B {R : Bool → Hp → Prop} : tB te σ H R = te σ H (fun x H1 => ∃ c, x = .bl c ∧ R c H1) := rfl
theorem e_and {R : Bool → Hp → Prop} : tAnd tt tu σ H R = tt σ H (fun c H1 => if c = true then tu σ H1 R else R false H1) := rfl
theorem e_or {R : Bool → Hp → Prop} : tOr tt tu σ H R = tt σ H (fun c H1 => if c = true then R true H1 else tu σ H1 R) := rfl
theorem e_not {R : Bool → Hp → Prop} : tNot tt σ H R = tt σ H (fun c H1 => R (!c) H1) := rfl
theorem e_andV : tAndV ta tb σ H Q = ta σ H (fun x H1 => ∃ c, x = .bl c ∧ if c = true then tb σ H1 Q else Q (.bl false) H1) := rfl
theorem e_orV : tOrV ta tb σ H Q = ta σ H (fun x H1 => ∃ c, x = .bl c ∧ if c = true then Q (.bl true) H1 else tb σ H1 Q) := rfl
theorem e_notV : tNotV ta σ H Q = ta σ H (fun x H1 => ∃ c, x = .bl c ∧ Q (.bl (!c)) H1) := rfl
theorem e_ifE : tIf tt ta tb σ H Q = tt σ H (fun c H1 => if c = true then ta σ H1 Q else tb σ H1 Q) := rfl
theorem e_cb {rc : List V → Hp → VK → Prop} : tCB rc tr σ H Q = tr σ H (fun vs H1 => rc vs H1 Q) := rfl
theorem e_nil {R : List V → Hp → Prop} : tNil σ H R = R [] H := rfl
theorem e_cons {R : List V → Hp → Prop} : tCons ta tr σ H R = ta σ H (fun x H1 => tr σ H1 fun xs H2 => R (x :: xs) H2) := rfl
theorem e_tup : tTup tr σ H Q = tr σ H (fun xs H1 => xs.length ≤ sizeLine ∧ ∀ p, H1 p = none → Q (.ref p) (upd H1 p (.tup xs))) := rfl
theorem e_lst1 : tLst1 tr σ H Q = tr σ H (fun xs H1 => xs.length ≤ sizeLine ∧ ∀ p, H1 p = none → p ≠ sysModules → Q (.ref p) (upd H1 p (.lst xs))) := rfl
theorem e_fld : tFld K ta f σ H Q = ta σ H (fun x H1 => rFld K f x H1 Q) := rfl
theorem e_slice {rs : V → Option Int → Option Int → Hp → VK → Prop} : L2.tSl rs te tl th σ H Q = te σ H (fun x H1 => tl σ H1 fun a H2 => th σ H2 fun b H3 => rs x a b H3 Q) := rfl
theorem e_nopart {R : Option Int → Hp → Prop} : tNoPart σ H R = R none H := rfl
theorem e_part {R : Option Int → Hp → Prop} : tPart te σ H R = te σ H (fun x H1 => ∃ i, x = .int i ∧ R (some i) H1) := rfl
theorem e_bm0 {T : String} {rm : V → List V → Hp → VK → Prop} : tBM0 K T rm te σ H Q = te σ H (fun x H1 => tyV K T x H1 ∧ rm x [] H1 Q) := rfl
theorem e_bm {T : String} {rm : V → List V → Hp → VK → Prop} : tBM K T rm te tr σ H Q = te σ H (fun x H1 => tyV K T x H1 ∧ tr σ H1 fun xs H2 => rm x xs H2 Q) := rfl
theorem e_m1 {rm : V → List V → Hp → VK → Prop} : tM1 rm ta te σ H Q = ta σ H (fun x H1 => (∃ a, x = .str a) ∧ te σ H1 fun y H2 => rm x [y] H2 Q) := rfl
theorem e_cg {sp : Sp} {W : WX} : tCG sp W tr σ H Q = tr σ H (fun vs H1 => sp vs H1 Q (WE W σ)) := rfl
theorem e_mg {C : Addr} {m : Str} {sp : Sp} {W : WX} : tMG C m sp W ta tr σ H Q = ta σ H (fun x H1 => rMeth C m x H1 fun H1' => tr σ H1' fun vs H2 => sp (x :: vs) H2 Q (WE W σ)) :=
  by
    unfold tMG rMeth
    rfl
theorem e_make {C : Addr} {sp : Sp} {dvs : List V} {E : XK} : tMake C sp dvs E tr σ H Q = tr σ H (fun vs H1 => ∀ x dx, H1 x = none → H1 dx = none → dx ≠ x →
  sp (.ref x :: (vs ++ dvs)) (upd (upd H1 dx (.own x)) x (.ins C dx [])) (fun v H2 => v = .non ∧ Q (.ref x) H2) E) := rfl
theorem e_prop {C : Addr} {sp : Sp} {dvs : List V} {E : XK} : tProp C sp dvs E ta σ H Q = ta σ H (fun x H1 => rPrp C sp dvs E x H1 Q) := rfl
theorem e_raise1 {C : Addr} {W : WX} : tRaise1 C f W te D σ H = te σ H (fun v H1 => ∀ d, H1 d = none → W (.ref C) (some d) σ (upd H1 d (.xd [(f, v)]))) := rfl
theorem e_chain {r' : R2} : tChain r r' ta tb tc σ H Q = ta σ H (fun x H1 => tb σ H1 fun y H2 => r x y H2 fun z H3 => ∃ k, z = .bl k ∧ (if k = true then tc σ H3 fun w' H4 => r' y w' H4 Q else Q (.bl false) H3)) := rfl
theorem e_mulS {z : Str} {k : Int} : rMulS (.str z) (.int k) H Q = (PySem.MulOk z k ∧ Q (.str (Txt.mul z k)) H) :=
  propext ⟨fun ⟨_, _, e1, e2, c, q⟩ => by cases e1; cases e2; exact ⟨c, q⟩, fun ⟨c, q⟩ => ⟨_, _, rfl, rfl, c, q⟩⟩
theorem e_slS {z : Str} {lo hi : Option Int} : rSlS (.str z) lo hi H Q = (z.length ≤ sizeLine ∧ Q (.str (cutS z lo hi)) H) :=
  propext ⟨fun ⟨_, e1, c, q⟩ => by cases e1; exact ⟨c, q⟩, fun ⟨c, q⟩ => ⟨_, rfl, c, q⟩⟩
theorem e_ixL {p : Addr} {i : Int} : rIxL K (.ref p) (.int i) H Q = ∃ xs v, SqL K H p xs ∧ atI xs i = some v ∧ Q v H :=
  propext ⟨fun ⟨_, xs, _, v, e1, e2, c, d, q⟩ => by cases e1; cases e2; exact ⟨xs, v, c, d, q⟩, fun ⟨xs, v, c, d, q⟩ => ⟨_, xs, _, v, rfl, rfl, c, d, q⟩⟩
theorem e_ixT {p : Addr} {i : Int} : rIxT K (.ref p) (.int i) H Q = ∃ xs v, SqT K H p xs ∧ atI xs i = some v ∧ Q v H :=
  propext ⟨fun ⟨_, xs, _, v, e1, e2, c, d, q⟩ => by cases e1; cases e2; exact ⟨xs, v, c, d, q⟩, fun ⟨xs, v, c, d, q⟩ => ⟨_, xs, _, v, rfl, rfl, c, d, q⟩⟩
theorem e_ixS {z : Str} {i : Int} : rIxS (.str z) (.int i) H Q = ∃ c, z.length ≤ sizeLine ∧ atI z.cps.toList i = some c ∧ Q (.str ⟨#[c]⟩) H :=
  propext ⟨fun ⟨_, _, c, e1, e2, d, a, q⟩ => by cases e1; cases e2; exact ⟨c, d, a, q⟩, fun ⟨c, d, a, q⟩ => ⟨_, _, c, rfl, rfl, d, a, q⟩⟩
theorem e_setL {p : Addr} {k : Int} {R : Hp → Prop} : rSetL (.ref p) (.int k) v H R = ∃ xs j, H p = some (.lst xs) ∧ ixN xs.length k = some j ∧ R (upd H p (.lst (xs.set j v))) :=
  propext ⟨fun ⟨_, xs, _, j, e1, e2, c, d, q⟩ => by cases e1; cases e2; exact ⟨xs, j, c, d, q⟩, fun ⟨xs, j, c, d, q⟩ => ⟨_, xs, _, j, rfl, rfl, c, d, q⟩⟩
theorem r_ixL {p : Addr} {i : Int} {xs : List V} {v : V} (h : SqL K H p xs) (e : atI xs i = some v) (q : Q v H) : rIxL K (.ref p) (.int i) H Q := ⟨_, xs, _, v, rfl, rfl, h, e, q⟩
theorem r_ixT {p : Addr} {i : Int} {xs : List V} {v : V} (h : SqT K H p xs) (e : atI xs i = some v) (q : Q v H) : rIxT K (.ref p) (.int i) H Q := ⟨_, xs, _, v, rfl, rfl, h, e, q⟩
end
theorem e_cxK {CX : CXT} {P : Program} {w : World} {mg : Str → Option Value} {base : Heap} {N : List Str} {qual : Str} {scope : Scope} {f : Addr} {cd : Value} {A : Around} {outer : List Env} {s : Shared} {H : Hp} {E : XK} {K : PySem.W.Frag} :
    (cxOf CX P w K mg base N qual scope f cd A outer s H E).K = K := rfl
theorem e_pt {R : Bool → Hp → Prop} {σ : L2.St} {H : Hp} {t : TT} {b : Bool} (h : t σ H R) : t σ H R := h
/-- int(n), n an int -/
theorem call_intI {X : Cx} : CallR X (.type "int") (fun xs H Q => ∃ i, xs = [.int i] ∧ Q (.int i) H) := by
  intro pins s σ H xs us Q I r h
  obtain ⟨i, e, q⟩ := h
  exact call_int1 pins s σ H xs us Q I r (.inl ⟨i, e, q⟩)
/-- σ at the entry -/
theorem start_def {N : List Str} {vs : List V} : L2.start N vs = vs.map some ++ List.replicate (N.length - vs.length) none := rfl
end Nv

namespace Nv
open PySem PySem.Spec PyProof.Rows L2

/-! {n:04d} -/
/-- the text of {i:04d} -/
def four (i : Int) : Str := ⟨(List.replicate (4 - (Nat.toDigits 10 i.natAbs).length) 48 ++ (Nat.toDigits 10 i.natAbs).map Char.toNat).toArray⟩
theorem four_len {i : Int} (h1 : i.natAbs < 10000) : (four i).length ≤ 4 := by
  have h := digits10_le (k := 4) (n := i.natAbs) (by decide) (by omega)
  show ((List.replicate (4 - (Nat.toDigits 10 i.natAbs).length) 48 ++ (Nat.toDigits 10 i.natAbs).map Char.toNat).toArray).size ≤ 4
  simp
  omega
theorem small_log {n : Nat} (h : n < 10000) : n.log2 < 1920 := by
  by_cases h0 : n = 0
  · subst h0
    decide
  · rw [Nat.log2_lt h0]
    exact Nat.lt_of_lt_of_le h (by
      have : (2 : Nat) ^ 14 ≤ 2 ^ 1920 := Nat.pow_le_pow_right (by decide) (by decide)
      omega)
def f4 : Builtin.Float.FormatSpec := { fill := 48, align := 61, width := some 4, type := some 100 }
theorem gives_four (i : Int) (t u : Tok) (h0 : 0 ≤ i) (h1 : i.natAbs < 10000) : Gives (Builtin.«int.__format__» ⟨[.int i t, .str "04d" u], []⟩) (.str (four i)) := by
  intro prog w A R s hq
  unfold Builtin.«int.__format__»
  simp only [selfAndOne, noKeywords, Builtin.Int.intOfSelf, asInt?, asStr?, List.isEmpty_nil, if_true, pure_bind, bind_pure, bind_assoc, show (Value.str "04d" u == Value.none) = false from rfl, Bool.false_eq_true, if_false,
    show ((Str.ofString "04d").length == 0) = false from by decide +kernel]
  refine wpAny_bind (wpAny_typeNameOf (T := "str") (typeIs_str _ _ _) (by decide) fun _ => ?_)
  rw [if_neg (by decide +kernel)]
  first | refine wpAny_bind (wpAny_typeNameOfCut_int ?_) | refine wpAny_bind (wpAny_typeNameOf_int ?_)
  obtain ⟨f, hp, hty, hpr, hz, hal, hw, hgr, hsg, hfi, hag⟩ : ∃ f, Builtin.Float.parseFormatSpec (Str.ofString "04d").cps.toList "int" 62 = .ok f ∧ f.type = some 100 ∧ f.precision = none ∧ f.noNeg0 = false ∧ f.alt = false ∧ f.width = some 4 ∧ f.grouping = none ∧ f.sign = none ∧ f.fill = 48 ∧ f.align = 61 :=
    ⟨f4, rfl, rfl, rfl, rfl, rfl, rfl, rfl, rfl, rfl, rfl⟩
  simp only [hp, hty, Option.getD_some]
  rw [if_pos (by decide)]
  show wpAny _ _ (if _ then _ else _) _ _ _
  rw [if_neg (by simp [hpr])]
  show wpAny _ _ (if _ then _ else _) _ _ _
  rw [if_neg (by simp [hz])]
  show wpAny _ _ (if _ then _ else _) _ _ _
  rw [if_neg (by decide)]
  show wpAny _ _ (do let r ← Builtin.overDigitLimit? i; _) _ _ _
  rw [PySem.overDigitLimit_small (small_log h1)]
  refine wpAny_bind (wpAny_pure ?_)
  show wpAny _ _ (if _ then _ else _) _ _ _
  rw [if_neg (by simp [hw])]
  show wpAny _ _ (retStr _) _ _ _
  have hd : ((Nat.toDigits 10 i.natAbs).map fun c => (if (100 : Nat) == 88 then c.toUpper else c).toNat).isEmpty = false := by
    have := tDigits_len_ge 10 i.natAbs
    cases h : Nat.toDigits 10 i.natAbs with
    | nil => rw [h] at this; simp at this
    | cons _ _ => rfl
  have hneg : decide (i < 0) = false := decide_eq_false (by omega)
  have key : ∀ X : Str, X = four i → wpAny (model prog w) A.in1 (retStr X) (fun fin s' => match fin with | .done f => R (.ok f) s' | .again c' => c'.quiet = true ∧ codeAny (model prog w) A c' R s') (fun e s' => R (.error e) s') s := by
    intro X e
    subst e
    exact (Gives.of_eq (t := retStr (four i)) (m := .str (four i)) rfl) prog w A R s hq
  refine key _ ?_
  simp only [hal, hneg, Bool.false_eq_true, if_false, show ((10 : Nat) == 10) = true by decide, if_true]
  clear hd hneg key hq
  generalize hD : ((Nat.toDigits 10 i.natAbs).map fun c => (if (100 : Nat) == 88 then c.toUpper else c).toNat) = D
  have hD2 : four i = ⟨(List.replicate (4 - D.length) 48 ++ D).toArray⟩ := by
    rw [← hD]
    unfold four
    simp
  rw [hD2]
  have hne : D.isEmpty = false := by
    rw [← hD]
    have := tDigits_len_ge 10 i.natAbs
    cases h : Nat.toDigits 10 i.natAbs with
    | nil => rw [h] at this; simp at this
    | cons _ _ => rfl
  clear hD hD2 hp
  obtain ⟨fill, align, sign, noNeg0, alt, width, grouping, precision, type⟩ := f
  simp only at hty hpr hz hal hw hgr hsg hfi hag
  subst hty hpr hz hal hw hgr hsg hfi hag
  cases D with
  | nil => cases hne
  | cons x r =>
  conv => lhs; whnf
  have c1 : ((48 : Nat) == 48 && (61 : Nat) == 61) = true := rfl
  simp only [List.replicate_zero, List.nil_append, List.append_nil, List.length_nil, c1, hne, Bool.false_eq_true, if_false, if_true, List.length_append, List.length_replicate]
  have e1 : (((4 : Nat) : Int) - (((0 : Nat) : Int) + ((0 : Nat) : Int) + ((0 : Nat) : Int))).toNat = 4 := by decide
  rw [e1]
  have e2 : (((4 : Nat) : Int) - (((0 : Nat) : Int) + ((0 : Nat) : Int) + ((0 : Nat) : Int)) - ((4 - (x :: r).length + (x :: r).length : Nat) : Int)).toNat = 0 := by omega
  rw [e2]
  rfl
theorem field_four {prog : Program} {w : World} {A : Around} {E : Value → Shared → Prop} {s : Shared} {i : Int} {t : Tok} {Q : Value → Shared → Prop} (h0 : 0 ≤ i) (h1 : i.natAbs < 10000)
    (h : Q (.str (four i) (s.toks + 1)) { s with toks := s.toks + 1 + 1 }) : wpAny (model prog w) A (formatField (.int i t) "04d") Q E s :=
  wpAny_formatField_spec (by decide +kernel) (fun s' => typeIs_int s' i t) F.slot_int_format F.entry_int_format F.args_int_format_2 (fun u => gives_four i t u h0 h1) h (by decide +kernel) (by have := four_len h1; have e : sizeLine = 16777216 := sizeLine_eq; omega)
def tF4 (te : TE) : TE := fun σ H Q => te σ H fun x H1 => ∃ i : Int, x = .int i ∧ 0 ≤ i ∧ i.natAbs < 10000 ∧ Q (.str (four i)) H1
theorem pe_fmt04 {X : Cx} {e : Expr} {te : TE} {k : Nat} {p1 p2 pos : Pos} (he : PE X e te) : PE X (.FormattedValue e (-1) (some (.JoinedStr [.Constant (.str "04d") k p1] p2)) pos) (tF4 te) := by
  refine ⟨fun pins s σ H Q I h => ?_⟩
  refine wpAny_FormattedValue_spec (thn (he.run pins s σ H _ I h) fun v s1 hv => ?_)
  obtain ⟨x, H1, I1, r1, i, rfl, h0, h1, q⟩ := hv
  obtain ⟨t, rfl⟩ := r1
  refine wpAny_JoinedStr_one ?_
  have z := (pe_str (X := X) (x := "04d") (j := k) (pos := p1)).run pins s1 σ H1 (fun v H2 => v = .str "04d" ∧ H2 = H1) I1 ⟨rfl, rfl⟩
  refine thn z fun v s2 ⟨v', H2, I2, r2, e1, e2⟩ => ?_
  subst e1 e2
  obtain ⟨t2, rfl⟩ := r2
  exact ⟨_, _, rfl, field_four h0 h1 ⟨.str (four i), H2, I2.tok _, ⟨_, rfl⟩, q⟩⟩

/-! repr of data without dicts -/
def rReprD (K : PySem.W.Frag) : List V → Hp → VK → Prop := fun xs H Q => ∃ (v : V) (d : PyData), xs = [v] ∧ Dp K H v d ∧ ((∃ z, v = .str z) ∨ ∃ a, v = .ref a) ∧ d.hasDict = false ∧ d.showable = true ∧ d.depth ≤ 60 ∧ d.shown.length ≤ sizeLine ∧ Q (.str d.shown) H
theorem call_reprD {X : Cx} (hG : X.A.guards = some []) (hu : X.A.units + 64 < cLine) : CallR X (.builtin "repr") (rReprD X.K) := by
  intro pins s σ H xs us Q I r h
  obtain ⟨v, d, rfl, hd, hv, hn, hs, hp, hz, q⟩ := h
  cases r with
  | cons r1 r2 =>
    cases r2
    rcases hv with ⟨z, rfl⟩ | ⟨a, rfl⟩
    · cases hd
      obtain ⟨t, rfl⟩ := r1
      exact PySem.P.repr_of_str ⟨.str (reprText z), H, I.tok _, ⟨_, rfl⟩, q⟩ hz
    · obtain ⟨as, rd⟩ := Dp.reads I d (.ref a) _ hd r1
      cases r1
      exact repr_of_reads' rd hs (fun e => by rw [hn] at e; cases e) hG (by omega) (fun _ _ e => e) (fun h' u tk k => ⟨.str d.shown, H, I.kept k, ⟨u, rfl⟩, q⟩) hz

/-! the readings, one step each -/
section
variable {σ : L2.St} {H : Hp} {Q : VK} {te ta tb : TE}
theorem e_f4 : tF4 te σ H Q = te σ H (fun x H1 => ∃ i : Int, x = .int i ∧ 0 ≤ i ∧ i.natAbs < 10000 ∧ Q (.str (four i)) H1) := rfl
theorem e_js0 {acc : Str} {R : Str → Hp → Prop} : tJs [] acc σ H R = R acc H := rfl
theorem e_js1 {ts : List TE} {acc : Str} {R : Str → Hp → Prop} : tJs (te :: ts) acc σ H R = te σ H (fun x H1 => ∃ y : Str, x = .str y ∧ (acc ++ y).length ≤ sizeLine ∧ tJs ts (acc ++ y) σ H1 R) := rfl
theorem e_fmt : tFmt te σ H Q = te σ H (fun x H1 => (∃ y : Str, x = .str y ∧ y.length ≤ sizeLine ∧ Q (.str y) H1) ∨ ∃ i : Int, x = .int i ∧ i.natAbs.log2 < 1920 ∧ Q (.str (toString i)) H1) := rfl
theorem e_lrg {t : L2.St → Hp → (Int → Int → Hp → Prop) → Prop} : tLstRg t σ H Q = t σ H (fun a b H1 => RgOk a b ∧ ∀ q, H1 q = none → Q (.ref q) (upd H1 q (.lst (rgV a b)))) := rfl
theorem e_rg1 {R : Int → Int → Hp → Prop} : tRg1 ta σ H R = ta σ H (fun x H1 => ∃ n, x = .int n ∧ R 0 n H1) := rfl
end
end Nv
namespace Nv
open PySem PySem.Spec PyProof.Rows L2
/-! the same rules where the written part's name is given (within a comprehension) -/
section
variable {X : Cx} {K : PySem.W.Frag}
theorem ix_listK (h : X.K = K) : IxR X (rIxL K) := by
  subst h
  exact ix_list
theorem ix_tupK (h : X.K = K) : IxR X (rIxT K) := by
  subst h
  exact ix_tup
theorem sl_listK (h : X.K = K) : SlR X (rSlL K) := by
  subst h
  exact sl_list
theorem sl_tupK (h : X.K = K) : SlR X (rSlT K) := by
  subst h
  exact sl_tup
theorem op_eqDK (h : X.K = K) (hu : X.A.units + 64 < cLine) : OpR X (compareOp .Eq) (rEqD K) := by
  subst h
  exact op_eqD hu
theorem op_neDK (h : X.K = K) (hu : X.A.units + 64 < cLine) : OpR X (compareOp .NotEq) (rNeD K) := by
  subst h
  exact op_neD hu
theorem call_len_seqK (h : X.K = K) : CallR X (.builtin "len") (fun xs H Q => ∃ p ys, xs = [.ref p] ∧ (SqL K H p ys ∨ SqT K H p ys) ∧ Q (.int ys.length) H) := by
  subst h
  exact call_len_seq
end
end Nv

namespace Nv
open PySem L2

/-! texts of plain signs -/
def Asc (z : Str) : Prop := ∀ c ∈ z.cps.toList, c < 128
theorem Asc.app {x y : Str} (a : Asc x) (b : Asc y) : Asc (x ++ y) := fun c h => by
  have e : (x ++ y).cps.toList = x.cps.toList ++ y.cps.toList := by
    show (x.cps ++ y.cps).toList = _
    simp
  rw [e] at h
  rcases List.mem_append.mp h with h | h
  · exact a c h
  · exact b c h
theorem cutS_sub {z : Str} {lo hi : Option Int} {c : Nat} (h : c ∈ (cutS z lo hi).cps.toList) : c ∈ z.cps.toList := by
  unfold cutS at h
  exact List.mem_of_mem_drop (List.mem_of_mem_take (by simpa using h))
theorem Asc.cut {z : Str} (a : Asc z) (lo hi : Option Int) : Asc (cutS z lo hi) := fun c h => a c (cutS_sub h)
theorem Asc.one {c : Nat} (h : c < 128) : Asc ⟨#[c]⟩ := fun d hd => by
  have : d = c := by simpa using hd
  omega
theorem Asc.empty : Asc Str.empty := fun c h => by
  simp [Str.empty] at h
theorem foldl_mem {x : Array Nat} {c : Nat} : ∀ (n : Nat) (acc : Array Nat), c ∈ ((List.replicate n x).foldl (· ++ ·) acc).toList → c ∈ acc.toList ∨ c ∈ x.toList
  | 0, acc, h => .inl h
  | n + 1, acc, h => by
    rw [List.replicate_succ, List.foldl_cons] at h
    rcases foldl_mem n _ h with h | h
    · have e : (acc ++ x).toList = acc.toList ++ x.toList := by simp
      rw [e] at h
      exact List.mem_append.mp h
    · exact .inr h
theorem Asc.mul {z : Str} (a : Asc z) (n : Int) : Asc (Txt.mul z n) := fun c h => by
  unfold Txt.mul at h
  split at h
  · exact Asc.empty c h
  · split at h
    · exact a c h
    · rcases foldl_mem _ _ h with h | h
      · simp at h
      · exact a c h
theorem foldl_size (x : Array Nat) : ∀ (n : Nat) (acc : Array Nat), ((List.replicate n x).foldl (· ++ ·) acc).size = acc.size + n * x.size
  | 0, acc => by simp
  | n + 1, acc => by
    rw [List.replicate_succ, List.foldl_cons, foldl_size x n, Array.size_append, Nat.succ_mul]
    omega
theorem mul_len (z : Str) (n : Int) : (Txt.mul z n).length ≤ z.length * n.toNat := by
  unfold Txt.mul
  split
  · exact Nat.zero_le _
  · split
    · rename_i h1 h2
      simp only [Bool.or_eq_true, beq_iff_eq] at h2
      rcases h2 with h2 | h2
      · subst h2
        simp
      · rw [h2]
        exact Nat.zero_le _
    · show ((List.replicate n.toNat z.cps).foldl (· ++ ·) #[]).size ≤ _
      rw [foldl_size]
      simp [Str.length, Nat.mul_comm]
theorem mulOk_of {z : Str} {n : Int} (h1 : n ≤ 1000) (h0 : -1000 ≤ n) (h2 : z.length ≤ 10000) : MulOk z n := by
  refine ⟨?_, ?_, ?_⟩
  · simp
    constructor <;> omega
  · intro hn _ h
    have hp : 0 < n := by omega
    have : (9223372036854774 : Int) ≤ (2 ^ 63 - 1) / n := by
      refine Int.le_ediv_of_mul_le hp ?_
      have : (2 : Int) ^ 63 - 1 = 9223372036854775807 := by decide
      rw [this]
      omega
    omega
  · intro hn _
    have hm : z.length * n.toNat ≤ 10000 * 1000 := Nat.mul_le_mul h2 (by omega)
    unfold Builtin.Str.tooLong
    have : sizeLine = 16777216 := sizeLine_eq
    simp [this]
    omega
theorem append_len (x y : Str) : (x ++ y).length = x.length + y.length := Str.length_append x y
theorem join_signs (l : List Nat) : Txt.join Str.empty (l.map fun c => (⟨#[c]⟩ : Str)) = ⟨l.toArray⟩ := by
  show Builtin.Str.glued Str.empty _ = _
  rw [StrLaws.glued_eq_join]
  exact PyProof.Rows.join_ones l
theorem Asc.signs {l : List Nat} (h : ∀ c ∈ l, c < 128) : Asc ⟨l.toArray⟩ := fun c hc => h c (by simpa using hc)
theorem repr_len {z : Str} (a : Asc z) : (reprText z).length ≤ 10 * z.length + 2 := StrLaws.reprText_len z fun c h => Nat.lt_of_lt_of_le (a c h) (by decide)
end Nv

namespace Nv
open PySem L2

/-! values whose text is short -/
structure Shw (W D : Nat) (d : PyData) : Prop where
  s : d.leavesShort 40 = true
  w : d.weight ≤ W
  p : d.depth ≤ D
  h : d.showable = true
structure Shws (W D : Nat) (ds : List PyData) : Prop where
  s : PyData.leavesShortAll 40 ds = true
  w : PyData.weightAll ds ≤ W
  p : PyData.depthAll ds ≤ D
  h : PyData.showableAll ds = true
theorem Shw.len {W D : Nat} {d : PyData} (h : Shw W D d) (hw : W ≤ 390000) : d.shown.length ≤ sizeLine := by
  have h1 := PyData.shown_le 40 (by decide) d h.s
  have h2 : (40 + 2) * d.weight ≤ (40 + 2) * 390000 := Nat.mul_le_mul_left _ (Nat.le_trans h.w hw)
  have e : sizeLine = 16777216 := sizeLine_eq
  omega
theorem Shw.le {W D W' D' : Nat} {d : PyData} (h : Shw W D d) (a : W ≤ W') (b : D ≤ D') : Shw W' D' d := ⟨h.s, Nat.le_trans h.w a, Nat.le_trans h.p b, h.h⟩
theorem Shw.non {W D : Nat} : Shw W D .none := ⟨rfl, Nat.zero_le _, Nat.zero_le _, rfl⟩
theorem Shw.bl {W D : Nat} (b : Bool) : Shw W D (.bool b) := ⟨rfl, Nat.zero_le _, Nat.zero_le _, rfl⟩
theorem log21 {i : Int} (h : -(10 ^ 21) ≤ i ∧ i ≤ 10 ^ 21) : i.natAbs.log2 < 70 := by
  by_cases h0 : i.natAbs = 0
  · rw [h0]
    decide
  · rw [Nat.log2_lt h0]
    omega
theorem Shw.int {D : Nat} {i : Int} (h : -(10 ^ 21) ≤ i ∧ i ≤ 10 ^ 21) : Shw 71 D (.int i) := by
  have hl := log21 h
  refine ⟨?_, ?_, Nat.zero_le _, ?_⟩
  · have h1 := int_text_length_le10 (a := i) (k := 22) (by decide) (by omega)
    have e : (Str.ofString (toString i)).length = (toString i).length := ofString_length _
    have h2 : (PyData.shown (.int i)).length ≤ 40 := by
      simp only [PyData.shown]
      exact Nat.le_trans (Nat.le_of_eq e) (by omega)
    simpa only [PyData.leavesShort, decide_eq_true_eq] using h2
  · simp only [PyData.weight]
    split <;> omega
  · simp only [PyData.showable, decide_eq_true_eq]
    omega
theorem Shw.str {D : Nat} {z : Str} (a : Asc z) : Shw z.length D (.str z) := by
  refine ⟨?_, Nat.le_refl _, Nat.zero_le _, rfl⟩
  simp only [PyData.leavesShort, List.all_eq_true, decide_eq_true_eq]
  exact fun c hc => Nat.lt_of_lt_of_le (a c hc) (by decide)
theorem Shw.list {W D : Nat} {ds : List PyData} (h : Shws W D ds) : Shw W (D + 1) (.list ds) := by
  refine ⟨?_, ?_, ?_, ?_⟩
  · simpa only [PyData.leavesShort] using h.s
  · simpa only [PyData.weight] using h.w
  · have := h.p
    simp only [PyData.depth]
    omega
  · simpa only [PyData.showable] using h.h
theorem Shw.tuple {W D : Nat} {ds : List PyData} (h : Shws W D ds) : Shw W (D + 1) (.tuple ds) := by
  refine ⟨?_, ?_, ?_, ?_⟩
  · simpa only [PyData.leavesShort] using h.s
  · simpa only [PyData.weight] using h.w
  · have := h.p
    simp only [PyData.depth]
    omega
  · simpa only [PyData.showable] using h.h
theorem Shw.dict1 {W1 W2 D : Nat} {k v : PyData} (a : Shw W1 D k) (b : Shw W2 D v) : Shw (W1 + W2 + 2) (D + 1) (.dict [(k, v)]) := by
  refine ⟨?_, ?_, ?_, ?_⟩
  · simp only [PyData.leavesShort, PyData.leavesShortKv, a.s, b.s, Bool.and_self]
  · have := a.w
    have := b.w
    simp only [PyData.weight, PyData.weightKv]
    omega
  · have := a.p
    have := b.p
    simp only [PyData.depth, PyData.depthKv]
    omega
  · simp only [PyData.showable, PyData.showableKv, a.h, b.h, Bool.and_self]
theorem Shws.nil {W D : Nat} : Shws W D [] := ⟨rfl, Nat.zero_le _, Nat.zero_le _, rfl⟩
theorem Shws.cons {W1 W2 D : Nat} {d : PyData} {ds : List PyData} (a : Shw W1 D d) (b : Shws W2 D ds) : Shws (W1 + 1 + W2) D (d :: ds) := by
  refine ⟨?_, ?_, ?_, ?_⟩
  · simp only [PyData.leavesShortAll, a.s, b.s, Bool.and_self]
  · have := a.w
    have := b.w
    simp only [PyData.weightAll]
    omega
  · have := a.p
    have := b.p
    simp only [PyData.depthAll]
    omega
  · simp only [PyData.showableAll, a.h, b.h, Bool.and_self]
theorem Shws.le {W D W' D' : Nat} {d : List PyData} (h : Shws W D d) (a : W ≤ W') (b : D ≤ D') : Shws W' D' d := ⟨h.s, Nat.le_trans h.w a, Nat.le_trans h.p b, h.h⟩
theorem Shws.app {W1 W2 D : Nat} : ∀ {ds es : List PyData}, Shws W1 D ds → Shws W2 D es → Shws (W1 + W2) D (ds ++ es)
  | [], es, a, b => b.le (by omega) (Nat.le_refl _)
  | d :: ds, es, a, b => by
    have h1 := a.s
    have h2 := a.w
    have h3 := a.p
    have h4 := a.h
    simp only [PyData.leavesShortAll, Bool.and_eq_true] at h1
    simp only [PyData.weightAll] at h2
    simp only [PyData.depthAll] at h3
    simp only [PyData.showableAll, Bool.and_eq_true] at h4
    have q : Shws (PyData.weightAll ds) D ds := ⟨h1.2, Nat.le_refl _, by omega, h4.2⟩
    have p : Shw (PyData.weight d) D d := ⟨h1.1, Nat.le_refl _, by omega, h4.1⟩
    have r := Shws.cons p (Shws.app q b)
    exact r.le (by omega) (Nat.le_refl _)
/-- repr of a list, a tuple, a dict whose text is short -/
theorem r_repr {H : Hp} {Q : VK} {a : Addr} {d : PyData} {W D : Nat} (h : DV H (.ref a) d) (s : Shw W D d) (hw : W ≤ 390000) (hd : D ≤ 60) (q : Q (.str d.shown) H) : rRepr [.ref a] H Q :=
  ⟨a, d, rfl, h, s.h, Nat.le_trans s.p hd, s.len hw, q⟩
end Nv

namespace PySem.W
/-- isinstance by an own class -/
theorem kit_ref {K : Frag} {C : Addr} {cls : Value} (hd : hasDictIn K C = true) (ht : typeIn K (.ref C) = some (.type "type")) (h : subIn K cls (.ref C) = some true) : kitOne K cls (.ref C) = some true := by
  have hc : (clsIn K C).isSome = true := by
    obtain ⟨cd, h, _⟩ := any_some hd
    rw [h]
    rfl
  unfold kitOne
  split
  · rfl
  · unfold kitCls
    simp [hc, ht, h]
end PySem.W

namespace Fr

def dig (c : Nat) : Bool := decide (48 ≤ c) && decide (c ≤ 57)
def num (l : List Nat) : Nat := l.foldl (fun a c => a * 10 + (c - 48)) 0
/-- where the frame ends that begins at s -/
def fend (z : List Nat) (s : Nat) : Option Nat :=
  if ((z.drop s).take 4).length = 4 ∧ ((z.drop s).take 4).all dig = true then
    if (z.drop (s + 4 + num ((z.drop s).take 4))).take 1 = [46] then some (s + 4 + num ((z.drop s).take 4) + 1) else none
  else none
def piece (z : List Nat) (a b : Nat) : List Nat := (z.drop a).take (b - a)
def rd (z : List Nat) : Nat → Nat → List (List Nat) → List (List Nat) × Nat
  | 0, s, acc => (acc, s)
  | n + 1, s, acc => match fend z s with
    | none => (acc, s)
    | some e => rd z n e (acc ++ [piece z (s + 4) (e - 1)])
def parse (z : List Nat) : List (List Nat) × Nat := rd z (z.length + 1) 0 []

theorem fend_bounds {z : List Nat} {s e : Nat} (h : fend z s = some e) : s + 5 ≤ e ∧ e ≤ z.length := by
  unfold fend at h
  split at h
  · split at h
    · rename_i h1 h2
      cases h
      have hl : ((z.drop (s + 4 + num ((z.drop s).take 4))).take 1).length = 1 := by rw [h2]; rfl
      rw [List.length_take, List.length_drop] at hl
      omega
    · cases h
  · cases h
theorem rd_more {z : List Nat} : ∀ (n s : Nat) (acc : List (List Nat)), z.length + 1 ≤ n + s → rd z n s acc = rd z (n + 1) s acc
  | 0, s, acc, h => by
    have : fend z s = none := by
      cases e : fend z s with
      | none => rfl
      | some x =>
        have := fend_bounds e
        omega
    simp [rd, this]
  | n + 1, s, acc, h => by
    rw [rd, rd]
    cases e : fend z s with
    | none => rfl
    | some x =>
      have := fend_bounds e
      exact rd_more n x _ (by omega)
/-- where a reading stands -/
def At (z : List Nat) (s : Nat) (acc : List (List Nat)) : Prop := s ≤ z.length ∧ rd z (z.length + 1) s acc = parse z
theorem At.zero (z : List Nat) : At z 0 [] := ⟨Nat.zero_le _, rfl⟩
theorem At.stop {z : List Nat} {s : Nat} {acc : List (List Nat)} (h : At z s acc) (e : fend z s = none) : parse z = (acc, s) := by
  rw [← h.2, rd, e]
theorem At.step {z : List Nat} {s e : Nat} {acc : List (List Nat)} (h : At z s acc) (he : fend z s = some e) : At z e (acc ++ [piece z (s + 4) (e - 1)]) := by
  have hb := fend_bounds he
  refine ⟨hb.2, ?_⟩
  rw [← h.2]
  have e1 : rd z (z.length + 1) s acc = rd z z.length e (acc ++ [piece z (s + 4) (e - 1)]) := by
    simp only [rd, he]
  rw [e1]
  exact (rd_more z.length e _ (by omega)).symm

/-! rows of frames -/
def pad (n : Nat) : List Nat := [48 + n / 1000 % 10, 48 + n / 100 % 10, 48 + n / 10 % 10, 48 + n % 10]
def frm (t : List Nat) : List Nat := pad t.length ++ t ++ [46]
theorem frm_len (t : List Nat) : (frm t).length = t.length + 5 := by
  simp [frm, pad]
theorem pad_num {n : Nat} (h : n < 10000) : num (pad n) = n := by
  simp only [num, pad, List.foldl_cons, List.foldl_nil]
  omega
theorem pad_dig (n : Nat) : (pad n).all dig = true := by
  simp only [pad, List.all_cons, List.all_nil, dig, Bool.and_true, Bool.and_eq_true, decide_eq_true_eq]
  omega
def row (ts : List (List Nat)) : List Nat := (ts.map frm).flatten
def total (ts : List (List Nat)) : Nat := (ts.map fun t => t.length + 5).sum
theorem row_len (ts : List (List Nat)) : (row ts).length = total ts := by
  induction ts with
  | nil => rfl
  | cons t r ih =>
    simp only [row, total, List.map_cons, List.flatten_cons, List.length_append, List.sum_cons, frm_len] at *
    omega
/-- how many frames end within the first c signs -/
def cnt : List (List Nat) → Nat → Nat
  | [], _ => 0
  | t :: r, c => if t.length + 5 ≤ c then 1 + cnt r (c - (t.length + 5)) else 0
theorem cnt_le : ∀ (ts : List (List Nat)) (c : Nat), cnt ts c ≤ ts.length
  | [], c => Nat.le_refl _
  | t :: r, c => by
    have := cnt_le r (c - (t.length + 5))
    simp only [cnt, List.length_cons]
    split <;> omega
theorem drop_app {α : Type} (l m : List α) : (l ++ m).drop l.length = m := by simp
theorem fend_whole {pre t rest : List Nat} (ht : t.length < 10000) : fend (pre ++ (frm t ++ rest)) pre.length = some (pre.length + (t.length + 5)) := by
  have e1 : ((pre ++ (frm t ++ rest)).drop pre.length).take 4 = pad t.length := by
    rw [drop_app]
    simp [frm, pad]
  have hp : (pad t.length).length = 4 := rfl
  unfold fend
  rw [e1, pad_num ht, if_pos ⟨hp, pad_dig _⟩]
  have e2 : (pre ++ (frm t ++ rest)).drop (pre.length + 4 + t.length) = 46 :: rest := by
    have : pre ++ (frm t ++ rest) = (pre ++ pad t.length ++ t) ++ (46 :: rest) := by simp [frm]
    rw [this]
    have hl : pre.length + 4 + t.length = (pre ++ pad t.length ++ t).length := by simp [hp]; omega
    rw [hl, drop_app]
  rw [e2]
  simp
  omega
theorem piece_whole {pre t rest : List Nat} : piece (pre ++ (frm t ++ rest)) (pre.length + 4) (pre.length + (t.length + 5) - 1) = t := by
  have : pre ++ (frm t ++ rest) = (pre ++ pad t.length) ++ (t ++ (46 :: rest)) := by simp [frm]
  unfold piece
  rw [this]
  have hl : pre.length + 4 = (pre ++ pad t.length).length := by simp [pad]
  have h2 : pre.length + (t.length + 5) - 1 - (pre.length + 4) = t.length := by omega
  rw [h2, hl, drop_app]
  simp
theorem fend_cut {pre t rest : List Nat} {c : Nat} (hc : c < t.length + 5) (ht : t.length < 10000) : fend (pre ++ (frm t ++ rest).take c) pre.length = none := by
  cases e : fend (pre ++ (frm t ++ rest).take c) pre.length with
  | none => rfl
  | some x =>
    exfalso
    have hb := fend_bounds e
    have hl : ((frm t ++ rest).take c).length ≤ c := by rw [List.length_take]; omega
    rw [List.length_append] at hb
    have h5 : 5 ≤ c := by omega
    have e1 : ((pre ++ (frm t ++ rest).take c).drop pre.length).take 4 = pad t.length := by
      rw [drop_app, List.take_take]
      have : min 4 c = 4 := by omega
      rw [this]
      simp [frm, pad]
    unfold fend at e
    rw [e1, pad_num ht, if_pos ⟨rfl, pad_dig _⟩] at e
    split at e
    · cases e
      omega
    · cases e
theorem fend_end {pre : List Nat} : fend pre pre.length = none := by
  cases e : fend pre pre.length with
  | none => rfl
  | some x =>
    have := fend_bounds e
    omega
theorem rd_row : ∀ (ts : List (List Nat)) (pre : List Nat) (acc : List (List Nat)) (c n : Nat), (∀ t ∈ ts, t.length < 10000) → ts.length < n →
    rd (pre ++ (row ts).take c) n pre.length acc = (acc ++ ts.take (cnt ts c), pre.length + total (ts.take (cnt ts c)))
  | [], pre, acc, c, n, _, hn => by
    obtain ⟨m, rfl⟩ : ∃ m, n = m + 1 := ⟨n - 1, by simp at hn; omega⟩
    simp only [row, List.map_nil, List.flatten_nil, List.take_nil, List.append_nil, cnt, total, List.sum_nil, Nat.add_zero]
    rw [rd, fend_end]
  | t :: r, pre, acc, c, n, hb, hn => by
    obtain ⟨m, rfl⟩ : ∃ m, n = m + 1 := ⟨n - 1, by simp at hn; omega⟩
    have ht := hb t (by simp)
    have e0 : row (t :: r) = frm t ++ row r := by simp [row]
    rw [e0, cnt]
    by_cases hc : t.length + 5 ≤ c
    · rw [if_pos hc]
      have e1 : (frm t ++ row r).take c = frm t ++ (row r).take (c - (t.length + 5)) := by
        rw [List.take_append, frm_len, List.take_of_length_le (by rw [frm_len]; omega)]
      rw [e1, rd, fend_whole ht]
      simp only
      rw [piece_whole]
      have ih := rd_row r (pre ++ frm t) (acc ++ [t]) (c - (t.length + 5)) m (fun t h => hb t (by simp [h])) (by simp at hn; omega)
      rw [List.length_append, frm_len, List.append_assoc] at ih
      rw [ih]
      have : 1 + cnt r (c - (t.length + 5)) = cnt r (c - (t.length + 5)) + 1 := by omega
      rw [this, List.take_succ_cons]
      simp [total]
      omega
    · rw [if_neg hc, rd, fend_cut (by omega) ht]
      simp [total]
theorem total_ge (ts : List (List Nat)) : 5 * ts.length ≤ total ts := by
  induction ts with
  | nil => exact Nat.le_refl _
  | cons t r ih =>
    simp only [total, List.map_cons, List.sum_cons, List.length_cons] at *
    omega
theorem rd_any {z : List Nat} (acc : List (List Nat)) : ∀ (k n s : Nat), z.length + 1 ≤ n + s → rd z (n + k) s acc = rd z n s acc
  | 0, n, s, h => rfl
  | k + 1, n, s, h => by
    rw [← Nat.add_assoc, ← rd_more (n + k) s acc (by omega), rd_any acc k n s h]
/-- what a row of frames that was cut is read as -/
theorem parse_row {ts : List (List Nat)} {c : Nat} (hb : ∀ t ∈ ts, t.length < 10000) : parse ((row ts).take c) = (ts.take (cnt ts c), total (ts.take (cnt ts c))) := by
  have h := rd_row ts [] [] c (((row ts).take c).length + 1 + ts.length) hb (by omega)
  simp only [List.nil_append, List.length_nil, Nat.zero_add] at h
  unfold parse
  rw [← h]
  exact (rd_any _ _ _ _ (by omega)).symm
theorem cnt_all : ∀ (ts : List (List Nat)) (c : Nat), total ts ≤ c → cnt ts c = ts.length
  | [], c, _ => rfl
  | t :: r, c, h => by
    have h' : t.length + 5 + total r ≤ c := by simpa [total] using h
    rw [cnt, if_pos (by omega), cnt_all r _ (by omega), List.length_cons]
    omega
theorem parse_all {ts : List (List Nat)} (hb : ∀ t ∈ ts, t.length < 10000) : parse (row ts) = (ts, total ts) := by
  have h := parse_row (c := (row ts).length) hb
  rw [List.take_length, cnt_all ts _ (by rw [row_len]; exact Nat.le_refl _), List.take_length] at h
  exact h
/-! the ends of frames -/
def ends : List (List Nat) → Nat → List Nat
  | [], s => [s]
  | t :: r, s => s :: ends r (s + (t.length + 5))
theorem ends_len : ∀ (ts : List (List Nat)) (s : Nat), (ends ts s).length = ts.length + 1
  | [], s => rfl
  | t :: r, s => by simp [ends, ends_len r]
theorem ends_ge : ∀ (ts : List (List Nat)) (s e : Nat), e ∈ ends ts s → s ≤ e ∧ e ≤ s + total ts
  | [], s, e, h => by
    have : e = s := by simpa [ends] using h
    simp [total, this]
  | t :: r, s, e, h => by
    have e0 : total (t :: r) = t.length + 5 + total r := by simp [total]
    rcases List.mem_cons.mp h with h | h
    · omega
    · have := ends_ge r _ e h
      omega
theorem ends_cnt : ∀ (ts : List (List Nat)) (s c : Nat), ((ends ts s).filter fun e => decide (e ≤ s + c)).length = cnt ts c + 1
  | [], s, c => by simp [ends, cnt]
  | t :: r, s, c => by
    have h0 : decide (s ≤ s + c) = true := by simp
    rw [ends, List.filter_cons, h0, if_pos rfl, List.length_cons, cnt]
    by_cases hc : t.length + 5 ≤ c
    · rw [if_pos hc]
      have ih := ends_cnt r (s + (t.length + 5)) (c - (t.length + 5))
      have : s + (t.length + 5) + (c - (t.length + 5)) = s + c := by omega
      rw [this] at ih
      omega
    · rw [if_neg hc]
      have : ((ends r (s + (t.length + 5))).filter fun e => decide (e ≤ s + c)) = [] := by
        rw [List.filter_eq_nil_iff]
        intro e he
        have := ends_ge r _ e he
        simp
        omega
      rw [this]
      rfl
theorem ends_at : ∀ (ts : List (List Nat)) (s k : Nat), k ≤ ts.length → (ends ts s)[k]? = some (s + total (ts.take k))
  | [], s, k, h => by
    have : k = 0 := by simpa using h
    subst this
    simp [ends, total]
  | t :: r, s, 0, h => by simp [ends, total]
  | t :: r, s, k + 1, h => by
    have ih := ends_at r (s + (t.length + 5)) k (by simpa using h)
    simp only [ends, List.getElem?_cons_succ, ih, List.take_succ_cons, total, List.map_cons, List.sum_cons]
    simp only [total] at ih
    congr 1
    omega
theorem ends_snoc : ∀ (ts : List (List Nat)) (t : List Nat) (s : Nat), ends (ts ++ [t]) s = ends ts s ++ [s + total ts + (t.length + 5)]
  | [], t, s => by simp [ends, total]
  | u :: r, t, s => by
    simp only [List.cons_append, ends, ends_snoc r, total, List.map_cons, List.sum_cons]
    congr 3
    omega
theorem row_rep (t : List Nat) (n : Nat) : row (List.replicate n t) = (List.replicate n (frm t)).flatten := by
  simp [row]
theorem total_rep (t : List Nat) (n : Nat) : total (List.replicate n t) = n * (t.length + 5) := by
  simp [total]
theorem cnt_rep (t : List Nat) : ∀ (n c : Nat), c ≤ n * (t.length + 5) → cnt (List.replicate n t) c = c / (t.length + 5)
  | 0, c, h => by
    have : c = 0 := by omega
    subst this
    simp [cnt]
  | n + 1, c, h => by
    rw [List.replicate_succ, cnt]
    by_cases hc : t.length + 5 ≤ c
    · rw [if_pos hc, cnt_rep t n _ (by rw [Nat.succ_mul] at h; omega)]
      rw [Nat.div_eq c (t.length + 5), if_pos ⟨by omega, hc⟩]
      omega
    · rw [if_neg hc, Nat.div_eq_of_lt (by omega)]
theorem rd_inv {z : List Nat} : ∀ (n s : Nat) (acc : List (List Nat)), (∀ t ∈ acc, ∀ c ∈ t, c ∈ z) → total acc ≤ s → s ≤ z.length →
    (∀ t ∈ (rd z n s acc).1, ∀ c ∈ t, c ∈ z) ∧ total (rd z n s acc).1 ≤ (rd z n s acc).2 ∧ (rd z n s acc).2 ≤ z.length
  | 0, s, acc, h1, h2, h3 => ⟨h1, h2, h3⟩
  | n + 1, s, acc, h1, h2, h3 => by
    rw [rd]
    cases e : fend z s with
    | none => exact ⟨h1, h2, h3⟩
    | some x =>
      have hb := fend_bounds e
      refine rd_inv n x _ ?_ ?_ hb.2
      · intro t ht c hc
        rcases List.mem_append.mp ht with ht | ht
        · exact h1 t ht c hc
        · have : t = piece z (s + 4) (x - 1) := by simpa using ht
          rw [this] at hc
          exact List.mem_of_mem_drop (List.mem_of_mem_take hc)
      · have hl : (piece z (s + 4) (x - 1)).length ≤ x - 1 - (s + 4) := by
          unfold piece
          rw [List.length_take]
          omega
        have : total (acc ++ [piece z (s + 4) (x - 1)]) = total acc + ((piece z (s + 4) (x - 1)).length + 5) := by simp [total]
        rw [this]
        omega
theorem parse_inv (z : List Nat) : (∀ t ∈ (parse z).1, ∀ c ∈ t, c ∈ z) ∧ total (parse z).1 ≤ (parse z).2 ∧ (parse z).2 ≤ z.length :=
  rd_inv _ 0 [] (by simp) (Nat.le_refl _) (Nat.zero_le _)
theorem ends_split (ts : List (List Nat)) (s : Nat) : ∃ i, ends ts s = i ++ [s + total ts] := by
  induction ts generalizing s with
  | nil => exact ⟨[], by simp [ends, total]⟩
  | cons t r ih =>
    obtain ⟨i, hi⟩ := ih (s + (t.length + 5))
    refine ⟨s :: i, ?_⟩
    rw [ends, hi, List.cons_append]
    simp only [total, List.map_cons, List.sum_cons]
    congr 3
    omega
end Fr

namespace Nv
open PySem PySem.Spec PyProof.Rows L2

/-! texts and their signs -/
def sg (z : Str) : List Nat := z.cps.toList
def tx (l : List Nat) : Str := ⟨l.toArray⟩
theorem sg_tx (l : List Nat) : sg (tx l) = l := by simp [sg, tx]
theorem tx_sg (z : Str) : tx (sg z) = z := by
  apply Str.ext'
  simp [sg, tx]
theorem sg_len (z : Str) : (sg z).length = z.length := by simp [sg, Str.length]
theorem tx_len (l : List Nat) : (tx l).length = l.length := by simp [tx, Str.length]
theorem sg_inj {x y : Str} (h : sg x = sg y) : x = y := by rw [← tx_sg x, ← tx_sg y, h]
theorem sg_app (x y : Str) : sg (x ++ y) = sg x ++ sg y := by
  show (x.cps ++ y.cps).toList = _
  simp [sg]
theorem tx_app (x y : List Nat) : tx (x ++ y) = tx x ++ tx y := sg_inj (by rw [sg_app, sg_tx, sg_tx, sg_tx])
theorem map_tx_sg (l : List Str) : (l.map sg).map tx = l := by
  rw [List.map_map]
  conv => rhs; rw [← List.map_id l]
  apply List.map_congr_left
  intro z _
  exact tx_sg z
theorem cut_nat (z : Str) (a b : Nat) : sg (cutS z (some (a : Int)) (some (b : Int))) = ((sg z).drop a).take (b - a) := by
  show ((((z.cps.toList.drop (HT.sIx z.length 0 (some (a : Int)))).take (HT.sIx z.length z.length (some (b : Int)) - HT.sIx z.length 0 (some (a : Int)))).toArray).toList) = _
  rw [HT.sIx_nat, HT.sIx_nat]
  simp only [sg]
  have hl : z.cps.toList.length = z.length := by simp [Str.length]
  by_cases h : a ≤ z.length
  · rw [Nat.min_eq_left h]
    by_cases h2 : b ≤ z.length
    · rw [Nat.min_eq_left h2]
    · rw [Nat.min_eq_right (by omega), List.take_of_length_le (by rw [List.length_drop, hl]; exact Nat.le_refl _), List.take_of_length_le (by rw [List.length_drop, hl]; omega)]
  · rw [Nat.min_eq_right (show z.length ≤ a by omega), List.drop_of_length_le (by rw [hl]; exact Nat.le_refl _), List.drop_of_length_le (by rw [hl]; omega)]
    simp
theorem cut_to (z : Str) (b : Nat) : sg (cutS z none (some (b : Int))) = (sg z).take b := by
  show ((((z.cps.toList.drop (HT.sIx z.length 0 none)).take (HT.sIx z.length z.length (some (b : Int)) - HT.sIx z.length 0 none)).toArray).toList) = _
  rw [HT.sIx_nat, HT.sIx_none]
  simp only [sg, List.drop_zero, Nat.sub_zero]
  have hl : z.cps.toList.length = z.length := by simp [Str.length]
  by_cases h2 : b ≤ z.length
  · rw [Nat.min_eq_left h2]
  · rw [Nat.min_eq_right (by omega), List.take_of_length_le (by rw [hl]; exact Nat.le_refl _), List.take_of_length_le (by rw [hl]; omega)]
theorem cutV_to (xs : List V) (b : Nat) : cutV xs none (some (b : Int)) = xs.take b := by
  unfold cutV
  rw [HT.sIx_nat, HT.sIx_none]
  simp only [List.drop_zero, Nat.sub_zero]
  by_cases h2 : b ≤ xs.length
  · rw [Nat.min_eq_left h2]
  · rw [Nat.min_eq_right (by omega), List.take_of_length_le (Nat.le_refl _), List.take_of_length_le (by omega)]
/-- a text of the space to the tilde -/
def pc (c : Nat) : Bool := decide (32 ≤ c) && decide (c ≤ 126)
def Pl (z : Str) : Prop := ∀ c ∈ sg z, pc c = true
theorem pc_lt {c : Nat} (h : pc c = true) : 32 ≤ c ∧ c ≤ 126 := by simpa [pc] using h
theorem Pl.asc {z : Str} (h : Pl z) : Asc z := fun c hc => by have := pc_lt (h c hc); omega
theorem Pl.app {x y : Str} (a : Pl x) (b : Pl y) : Pl (x ++ y) := fun c h => by
  rw [sg_app] at h
  exact (List.mem_append.mp h).elim (a c) (b c)
theorem Pl.cut {z : Str} (a : Pl z) (lo hi : Option Int) : Pl (cutS z lo hi) := fun c h => a c (cutS_sub h)
theorem Pl.one {c : Nat} (h : pc c = true) : Pl ⟨#[c]⟩ := fun d hd => by
  have : d = c := by simpa [sg] using hd
  rw [this]
  exact h
theorem Pl.empty : Pl Str.empty := fun c h => by simp [sg, Str.empty] at h
theorem Pl.mul {z : Str} (a : Pl z) (n : Int) : Pl (Txt.mul z n) := fun c h => by
  unfold Txt.mul at h
  split at h
  · exact Pl.empty c h
  · split at h
    · exact a c h
    · rcases foldl_mem _ _ h with h | h
      · simp at h
      · exact a c h
theorem Pl.tx {l : List Nat} (h : ∀ c ∈ l, pc c = true) : Pl (tx l) := fun c hc => h c (by simpa [sg_tx] using hc)
theorem pl_of {z : Str} (h : (sg z).all pc = true) : Pl z := fun c hc => List.all_eq_true.mp h c hc
theorem prnt : ∀ c, c < 128 → Unicode.isPrintable c = pc c := by decide +kernel
def okS (z : Str) : Bool := Txt.isascii z && Txt.isprintable z
theorem okS_all (z : Str) : okS z = (sg z).all pc := by
  unfold okS Txt.isascii Txt.isprintable sg
  rw [← Array.all_toList, ← Array.all_toList]
  generalize z.cps.toList = l
  induction l with
  | nil => rfl
  | cons c r ih =>
    simp only [List.all_cons]
    rw [← ih]
    by_cases h : c < 128
    · simp only [h, decide_true, Bool.true_and]
      rw [prnt c h]
      cases pc c <;> cases (r.all fun x => decide (x < 128)) <;> simp
    · have hp : pc c = false := by
        unfold pc
        simp
        omega
      simp [h, hp]
theorem Pl.ok {z : Str} (h : Pl z) : okS z = true := by
  rw [okS_all]
  exact List.all_eq_true.mpr h
theorem okS_pl {z : Str} (h : okS z = true) : Pl z := by
  rw [okS_all] at h
  exact pl_of h
theorem digC : ∀ c, c < 128 → Unicode.isDigit c = Fr.dig c := by decide +kernel
theorem isdigit_pl {z : Str} (h : Asc z) : Txt.isdigit z = (decide (0 < z.length) && (sg z).all Fr.dig) := by
  unfold Txt.isdigit
  rw [← Array.all_toList]
  congr 1
  have : ∀ l : List Nat, (∀ c ∈ l, c < 128) → l.all Unicode.isDigit = l.all Fr.dig := by
    intro l hl
    induction l with
    | nil => rfl
    | cons c r ih => simp only [List.all_cons, digC c (hl c (by simp)), ih fun c hc => hl c (by simp [hc])]
  exact this _ h
theorem int_dig {z : Str} (h : (sg z).all Fr.dig = true) (h1 : z.length ≠ 0) (h2 : z.length ≤ 640) : intText? z = some ((Fr.num (sg z) : Nat) : Int) := by
  have e := intText_digits (x := z) (fun c hc => (by
    have := List.all_eq_true.mp h c hc
    simpa [Fr.dig] using this)) (fun e => h1 (by rw [← sg_len]; show z.cps.toList.length = 0; rw [e]; rfl)) (by omega)
  exact e
/-! frames -/
theorem str_nat (n : Nat) : sg (Str.ofString (toString (n : Int))) = (Nat.toDigits 10 n).map Char.toNat := by
  have e := text_ofNat n
  rw [show (toString ((n : Nat) : Int)) = toString (Int.ofNat n) from rfl, e]
  exact sg_tx _
theorem pad_of {n : Nat} {l : List Nat} (h4 : l.length = 4) (hd : PySem.NumText.AllDigits l) (hv : PySem.NumText.digitsVal l = n) : l = Fr.pad n := by
  match l, h4 with
  | [a, b, c, d], _ =>
    have ha := hd a (by simp)
    have hb := hd b (by simp)
    have hc := hd c (by simp)
    have he := hd d (by simp)
    simp only [PySem.NumText.digitsVal, List.foldl_cons, List.foldl_nil] at hv
    simp only [Fr.pad, List.cons.injEq, and_true]
    omega
theorem val_zeros (k : Nat) (l : List Nat) : PySem.NumText.digitsVal (List.replicate k 48 ++ l) = PySem.NumText.digitsVal l := by
  induction k with
  | zero => rfl
  | succ k ih =>
    rw [List.replicate_succ, List.cons_append]
    show (List.replicate k 48 ++ l).foldl (fun acc c => acc * 10 + (c - 48)) (0 * 10 + (48 - 48)) = _
    exact ih
theorem four_pad (n : Nat) (h : n < 10000) : List.replicate (4 - (Nat.toDigits 10 n).length) 48 ++ (Nat.toDigits 10 n).map Char.toNat = Fr.pad n := by
  have hl := digits10_le (k := 4) (n := n) (by decide) (by simpa using h)
  have e : (Nat.toDigits 10 n).map Char.toNat = TL.numL n := by
    rw [← TL.tl_num n]
    exact (str_nat n).symm
  refine pad_of ?_ ?_ ?_
  · simp
    omega
  · intro c hc
    rcases List.mem_append.mp hc with hc | hc
    · have := (List.mem_replicate.mp hc).2
      omega
    · rw [e] at hc
      exact TL.numL_digits n c hc
  · rw [val_zeros, e]
    exact TL.numL_val n
theorem four_sg {i : Int} (h0 : 0 ≤ i) (h : i.natAbs < 10000) : sg (four i) = Fr.pad i.natAbs := by
  have e : sg (four i) = List.replicate (4 - (Nat.toDigits 10 i.natAbs).length) 48 ++ (Nat.toDigits 10 i.natAbs).map Char.toNat := sg_tx _
  rw [e]
  exact four_pad _ h
theorem foldl_rep (x : Array Nat) : ∀ (n : Nat) (acc : Array Nat), ((List.replicate n x).foldl (· ++ ·) acc).toList = acc.toList ++ (List.replicate n x.toList).flatten
  | 0, acc => by simp
  | n + 1, acc => by
    rw [List.replicate_succ, List.foldl_cons, foldl_rep x n, List.replicate_succ, List.flatten_cons]
    simp
theorem sg_mul (z : Str) (n : Nat) : sg (Txt.mul z (n : Int)) = (List.replicate n (sg z)).flatten := by
  unfold Txt.mul
  split
  · rename_i h
    have : n = 0 := by omega
    subst this
    rfl
  · split
    · rename_i h1 h2
      simp only [Bool.or_eq_true, beq_iff_eq] at h2
      rcases h2 with h2 | h2
      · have : n = 1 := by omega
        subst this
        simp
      · have : sg z = [] := by
          have := sg_len z
          rw [h2] at this
          exact List.length_eq_zero_iff.mp this
        rw [this]
        simp
    · show ((List.replicate (n : Int).toNat z.cps).foldl (· ++ ·) #[]).toList = _
      rw [foldl_rep]
      simp [sg]
end Nv

namespace Nv
open PySem L2

/-! data that are compared and shown -/
structure Ft (W D : Nat) (d : PyData) : Prop where
  c : d.canLay0 = true
  s : Shw W D d
structure Fts (W D : Nat) (ds : List PyData) : Prop where
  c : PyData.canLayAll0 ds = true
  s : Shws W D ds
theorem Ft.int {D : Nat} {i : Int} (h : -(10 ^ 21) ≤ i ∧ i ≤ 10 ^ 21) : Ft 71 D (.int i) := ⟨rfl, Shw.int h⟩
theorem Ft.str {D : Nat} {z : Str} (a : Asc z) : Ft z.length D (.str z) := by
  refine ⟨?_, Shw.str a⟩
  have h : z.cps.all (fun c => decide (c < 0x110000)) = true := by
    rw [← Array.all_toList]
    simp only [List.all_eq_true, decide_eq_true_eq]
    exact fun c hc => Nat.lt_of_lt_of_le (a c hc) (by decide)
  simp only [PyData.canLay0, PyData.strOk, h]
theorem Ft.non {W D : Nat} : Ft W D .none := ⟨rfl, Shw.non⟩
theorem Ft.bl {W D : Nat} (b : Bool) : Ft W D (.bool b) := ⟨rfl, Shw.bl b⟩
theorem Ft.le {W D W' D' : Nat} {d : PyData} (h : Ft W D d) (a : W ≤ W') (b : D ≤ D') : Ft W' D' d := ⟨h.c, h.s.le a b⟩
theorem Ft.list {W D : Nat} {ds : List PyData} (h : Fts W D ds) : Ft W (D + 1) (.list ds) := ⟨by simpa only [PyData.canLay0] using h.c, Shw.list h.s⟩
theorem Ft.tuple {W D : Nat} {ds : List PyData} (h : Fts W D ds) : Ft W (D + 1) (.tuple ds) := ⟨by simpa only [PyData.canLay0] using h.c, Shw.tuple h.s⟩
theorem Fts.nil {W D : Nat} : Fts W D [] := ⟨rfl, Shws.nil⟩
theorem Fts.cons {W1 W2 D : Nat} {d : PyData} {ds : List PyData} (a : Ft W1 D d) (b : Fts W2 D ds) : Fts (W1 + 1 + W2) D (d :: ds) := ⟨by simp only [PyData.canLayAll0, a.c, b.c, Bool.and_self], Shws.cons a.s b.s⟩
theorem Fts.le {W D W' D' : Nat} {d : List PyData} (h : Fts W D d) (a : W ≤ W') (b : D ≤ D') : Fts W' D' d := ⟨h.c, h.s.le a b⟩
def strsD (ts : List (List Nat)) : List PyData := ts.map fun t => .str (tx t)
def wt (ts : List (List Nat)) : Nat := (ts.map fun t => t.length + 1).sum
theorem Fts.strs {D : Nat} : ∀ {ts : List (List Nat)}, (∀ t ∈ ts, ∀ c ∈ t, c < 128) → Fts (wt ts) D (strsD ts)
  | [], _ => Fts.nil
  | t :: r, h => by
    have a : Asc (tx t) := fun c hc => h t (by simp) c (by rw [show (tx t).cps.toList = t from sg_tx t] at hc; exact hc)
    have q := Fts.cons (Ft.str (D := D) a) (Fts.strs (D := D) (ts := r) fun t ht => h t (by simp [ht]))
    rw [tx_len] at q
    exact q.le (by simp [wt]) (Nat.le_refl _)
theorem dp_strsD {K : PySem.W.Frag} {H : Hp} : ∀ ts : List (List Nat), DpAll K H (ts.map fun t => V.str (tx t)) (strsD ts)
  | [] => .nil
  | t :: r => .cons (.str _) (dp_strsD r)
/-- v == w and repr(v) == repr(w), both the data d -/
def spEqual (K : PySem.W.Frag) : Sp := fun vs H Q _ => ∃ v u d W D, vs = [v, u] ∧ Dp K H v d ∧ Dp K H u d ∧ ((∃ z, v = .str z) ∨ ∃ a, v = .ref a) ∧ ((∃ z, u = .str z) ∨ ∃ a, u = .ref a) ∧ Ft W D d ∧ W ≤ 390000 ∧ D ≤ 50 ∧ Q (.bl true) H
theorem r_eqD {K : PySem.W.Frag} {H : Hp} {Q : VK} {v u : V} {d : PyData} {W D : Nat} (a : Dp K H v d) (b : Dp K H u d) (f : Ft W D d) (h : D ≤ 60) (q : Q (.bl true) H) : rEqD K v u H Q := by
  have sh : SeqAt.shaped d = true := by
    unfold SeqAt.shaped
    have := f.s.p
    rw [f.c, Bool.true_and, decide_eq_true_eq]
    omega
  have e := SeqAt.eqv_refl d f.c
  exact ⟨d, d, a, b, sh, sh, by rw [e]; exact q⟩
theorem r_reprD {K : PySem.W.Frag} {H : Hp} {Q : VK} {v : V} {d : PyData} {W D : Nat} (a : Dp K H v d) (hv : (∃ z, v = .str z) ∨ ∃ a, v = .ref a) (f : Ft W D d) (hw : W ≤ 390000) (h : D ≤ 60) (q : Q (.str d.shown) H) : rReprD K [v] H Q :=
  ⟨v, d, rfl, a, hv, PyData.hasDict_of_canLay d f.c, f.s.h, Nat.le_trans f.s.p h, f.s.len hw, q⟩
end Nv

namespace K05
open PySem L2 Nv
def top (i : Nat) : Stmt := PySem.Challenge.pw_neverunsaid_k05_frames_and_cuts.main.body.getD i (.Pass ⟨0, 0, 0, 0⟩)
abbrev s_is_signs : Stmt := top 1
abbrev s_framed : Stmt := top 10
abbrev s_frames_in : Stmt := top 11
abbrev s_frame_end : Stmt := top 12
abbrev s_l_cell : Stmt := top 14
abbrev s_l_box : Stmt := top 15
abbrev s_l_take : Stmt := top 16
abbrev s_l_alphabet : Stmt := top 17
abbrev s_l_frame : Stmt := top 18
abbrev s_l_text : Stmt := top 19
abbrev s_l_texts : Stmt := top 20
abbrev s_l_read : Stmt := top 21
abbrev s_l_equal : Stmt := top 22
abbrev s_l_told : Stmt := top 23
abbrev s_l_ends : Stmt := top 24
abbrev s_l_cuts : Stmt := top 25
abbrev s_l_cut_right : Stmt := top 26
abbrev s_l_spoilt : Stmt := top 27
abbrev s_l_spoilt_right : Stmt := top 28
abbrev s_l_refused : Stmt := top 29
abbrev s_l_odd : Stmt := top 30
abbrev s_l_doors : Stmt := top 31
abbrev s_l_many_right : Stmt := top 32
abbrev s_l_right : Stmt := top 33
abbrev s_law : Stmt := top 34
abbrev s_InvalidText_init : Stmt := inClass (top 4) 0
theorem sc_InvalidText_init : FnScope ["self", "given"] ["self", "given"] (defScope s_InvalidText_init) := ⟨rfl, rfl, rfl, by decide +kernel, rfl, by decide +kernel, by decide +kernel⟩
abbrev s_InvalidSigns_init : Stmt := inClass (top 5) 0
theorem sc_InvalidSigns_init : FnScope ["self", "given"] ["self", "given"] (defScope s_InvalidSigns_init) := ⟨rfl, rfl, rfl, by decide +kernel, rfl, by decide +kernel, by decide +kernel⟩
theorem sc_is_signs : FnScope ["value"] ["value"] (defScope s_is_signs) := ⟨rfl, rfl, rfl, by decide +kernel, rfl, by decide +kernel, by decide +kernel⟩
theorem sc_framed : FnScope ["text"] ["text"] (defScope s_framed) := ⟨rfl, rfl, rfl, by decide +kernel, rfl, by decide +kernel, by decide +kernel⟩
theorem sc_frames_in : FnScope ["signs", "texts", "good", "end"] ["signs"] (defScope s_frames_in) := ⟨rfl, rfl, rfl, by decide +kernel, rfl, by decide +kernel, by decide +kernel⟩
theorem sc_frame_end : FnScope ["signs", "start", "figures", "end"] ["signs", "start"] (defScope s_frame_end) := ⟨rfl, rfl, rfl, by decide +kernel, rfl, by decide +kernel, by decide +kernel⟩
theorem sc_l_cell : FnScope ["_law_script", "_law_k"] ["_law_script", "_law_k"] (defScope s_l_cell) := ⟨rfl, rfl, rfl, by decide +kernel, rfl, by decide +kernel, by decide +kernel⟩
theorem sc_l_box : FnScope ["_law_great"] ["_law_great"] (defScope s_l_box) := ⟨rfl, rfl, rfl, by decide +kernel, rfl, by decide +kernel, by decide +kernel⟩
theorem sc_l_take : FnScope ["_law_box_here", "_law_many", "_law_digit", "_law_mixed"] ["_law_box_here", "_law_many"] (defScope s_l_take) := ⟨rfl, rfl, rfl, by decide +kernel, rfl, by decide +kernel, by decide +kernel⟩
theorem sc_l_alphabet : FnScope [] [] (defScope s_l_alphabet) := ⟨rfl, rfl, rfl, by decide +kernel, rfl, by decide +kernel, by decide +kernel⟩
theorem sc_l_frame : FnScope ["_law_text_here", "_law_many"] ["_law_text_here"] (defScope s_l_frame) := ⟨rfl, rfl, rfl, by decide +kernel, rfl, by decide +kernel, by decide +kernel⟩
theorem sc_l_text : FnScope ["_law_box_here", "_law_alphabet_here", "_law_kind", "_law_at", "_law_many", "_law_turn"] ["_law_box_here"] (defScope s_l_text) := ⟨rfl, rfl, rfl, by decide +kernel, rfl, by decide +kernel, by decide +kernel⟩
theorem sc_l_texts : FnScope ["_law_box_here", "_law_great", "_law_many", "_law_at", "_law_size", "_law_turn", "_law_texts_here"] ["_law_box_here", "_law_great"] (defScope s_l_texts) := ⟨rfl, rfl, rfl, by decide +kernel, rfl, by decide +kernel, by decide +kernel⟩
theorem sc_l_read : FnScope ["_law_signs", "_law_found", "_law_good", "_law_turn", "_law_head", "_law_sign", "_law_end"] ["_law_signs"] (defScope s_l_read) := ⟨rfl, rfl, rfl, by decide +kernel, rfl, by decide +kernel, by decide +kernel⟩
theorem sc_l_equal : FnScope ["_law_told_here", "_law_due"] ["_law_told_here", "_law_due"] (defScope s_l_equal) := ⟨rfl, rfl, rfl, by decide +kernel, rfl, by decide +kernel, by decide +kernel⟩
theorem sc_l_told : FnScope ["_law_signs", "_law_due", "_law_turn", "_law_first", "_law_texts_here"] ["_law_signs", "_law_due", "_law_turn"] (defScope s_l_told) := ⟨rfl, rfl, rfl, by decide +kernel, rfl, by decide +kernel, by decide +kernel⟩
theorem sc_l_ends : FnScope ["_law_texts_here", "_law_ends_here", "_law_text_here"] ["_law_texts_here"] (defScope s_l_ends) := ⟨rfl, rfl, rfl, by decide +kernel, rfl, by decide +kernel, by decide +kernel⟩
theorem sc_l_cuts : FnScope ["_law_box_here", "_law_ends_here", "_law_near", "_law_end", "_law_turn"] ["_law_box_here", "_law_ends_here"] (defScope s_l_cuts) := ⟨rfl, rfl, rfl, by decide +kernel, rfl, by decide +kernel, by decide +kernel⟩
theorem sc_l_cut_right : FnScope ["_law_box_here", "_law_texts_here", "_law_turn", "_law_row", "_law_ends_here", "_law_text_here", "_law_cut", "_law_whole", "_law_end"] ["_law_box_here", "_law_texts_here", "_law_turn"] (defScope s_l_cut_right) := ⟨rfl, rfl, rfl, by decide +kernel, rfl, by decide +kernel, by decide +kernel⟩
theorem sc_l_spoilt : FnScope ["_law_box_here", "_law_row", "_law_ends_here", "_law_first", "_law_way", "_law_kind", "_law_sign", "_law_one", "_law_at", "_law_spot"] ["_law_box_here", "_law_row", "_law_ends_here", "_law_first"] (defScope s_l_spoilt) := ⟨rfl, rfl, rfl, by decide +kernel, rfl, by decide +kernel, by decide +kernel⟩
theorem sc_l_spoilt_right : FnScope ["_law_box_here", "_law_texts_here", "_law_turn", "_law_row", "_law_ends_here", "_law_text_here", "_law_k", "_law_odd_here", "_law_more"] ["_law_box_here", "_law_texts_here", "_law_turn"] (defScope s_l_spoilt_right) := ⟨rfl, rfl, rfl, by decide +kernel, rfl, by decide +kernel, by decide +kernel⟩
theorem sc_l_refused : FnScope ["_law_door", "_law_value", "_law_turn", "e"] ["_law_door", "_law_value", "_law_turn"] (defScope s_l_refused) := ⟨rfl, rfl, rfl, by decide +kernel, rfl, by decide +kernel, by decide +kernel⟩
theorem sc_l_odd : FnScope ["_law_box_here", "_law_text_here", "_law_kind", "_law_at", "_law_rows"] ["_law_box_here", "_law_text_here"] (defScope s_l_odd) := ⟨rfl, rfl, rfl, by decide +kernel, rfl, by decide +kernel, by decide +kernel⟩
theorem sc_l_doors : FnScope ["_law_box_here", "_law_text_here", "_law_great", "_law_k", "_law_door", "_law_turn", "_law_value", "_law_told_here"] ["_law_box_here", "_law_text_here", "_law_great"] (defScope s_l_doors) := ⟨rfl, rfl, rfl, by decide +kernel, rfl, by decide +kernel, by decide +kernel⟩
theorem sc_l_many_right : FnScope ["_law_box_here", "_law_many", "_law_text_here", "_law_less", "_law_row", "_law_size", "_law_whole"] ["_law_box_here"] (defScope s_l_many_right) := ⟨rfl, rfl, rfl, by decide +kernel, rfl, by decide +kernel, by decide +kernel⟩
theorem sc_l_right : FnScope ["_law_box_here", "_law_great", "_law_turn", "_law_texts_here"] ["_law_box_here", "_law_great"] (defScope s_l_right) := ⟨rfl, rfl, rfl, by decide +kernel, rfl, by decide +kernel, by decide +kernel⟩
theorem sc_law : FnScope ["_law_script", "_law_k", "_law_box_here"] ["_law_script"] (defScope s_law) := ⟨rfl, rfl, rfl, by decide +kernel, rfl, by decide +kernel, by decide +kernel⟩
/-- a def of the module -/
structure Tx (K : PySem.W.Frag) (mg : Str → Option Value) : Type where
  C_InvalidText : Addr
  C_InvalidSigns : Addr
  C_UnsaidError : Addr
  x_InvalidText : InitT K C_InvalidText "InvalidText.__init__" s_InvalidText_init ["self", "given"]
  x_InvalidSigns : InitT K C_InvalidSigns "InvalidSigns.__init__" s_InvalidSigns_init ["self", "given"]
  e_InvalidText : ErrT K mg "InvalidText" "given" C_InvalidText x_InvalidText.f
  e_InvalidSigns : ErrT K mg "InvalidSigns" "given" C_InvalidSigns x_InvalidSigns.f
  m_InvalidText : mg "InvalidText" = some (.ref C_InvalidText)
  m_InvalidSigns : mg "InvalidSigns" = some (.ref C_InvalidSigns)
  m_UnsaidError : mg "UnsaidError" = some (.ref C_UnsaidError)
  x_InvalidText_InvalidText : PySem.W.exmOne K (.ref C_InvalidText) (.ref C_InvalidText) = some true
  x_InvalidSigns_InvalidText : PySem.W.exmOne K (.ref C_InvalidSigns) (.ref C_InvalidText) = some false
  x_InvalidSigns_InvalidSigns : PySem.W.exmOne K (.ref C_InvalidSigns) (.ref C_InvalidSigns) = some true
  i_InvalidText_UnsaidError : PySem.W.kitOne K (.ref C_InvalidText) (.ref C_UnsaidError) = some true
  i_InvalidSigns_UnsaidError : PySem.W.kitOne K (.ref C_InvalidSigns) (.ref C_UnsaidError) = some true
  t_FIGURES : Tok
  g_FIGURES : mg "FIGURES" = some (.int 4 t_FIGURES)
  t_MOST_SIGNS : Tok
  g_MOST_SIGNS : mg "MOST_SIGNS" = some (.int 9999 t_MOST_SIGNS)
  t_END : Tok
  g_END : mg "END" = some (.str "." t_END)
  n_abs : mg "abs" = none
  n_int : mg "int" = none
  n_isinstance : mg "isinstance" = none
  n_len : mg "len" = none
  n_list : mg "list" = none
  n_max : mg "max" = none
  n_min : mg "min" = none
  n_range : mg "range" = none
  n_repr : mg "repr" = none
  n_sorted : mg "sorted" = none
  n_str : mg "str" = none
  n_sum : mg "sum" = none
  d_is_signs : DefT K mg "is_signs" s_is_signs ["value"]
  d_framed : DefT K mg "framed" s_framed ["text"]
  d_frames_in : DefT K mg "frames_in" s_frames_in ["signs"]
  d_frame_end : DefT K mg "_frame_end" s_frame_end ["signs", "start"]
  d_l_cell : DefT K mg "_law_cell" s_l_cell ["_law_script", "_law_k"]
  d_l_box : DefT K mg "_law_box" s_l_box ["_law_great"]
  d_l_take : DefT K mg "_law_take" s_l_take ["_law_box_here", "_law_many"]
  d_l_alphabet : DefT K mg "_law_alphabet" s_l_alphabet []
  d_l_frame : DefT K mg "_law_frame" s_l_frame ["_law_text_here"]
  d_l_text : DefT K mg "_law_text" s_l_text ["_law_box_here"]
  d_l_texts : DefT K mg "_law_texts" s_l_texts ["_law_box_here", "_law_great"]
  d_l_read : DefT K mg "_law_read" s_l_read ["_law_signs"]
  d_l_equal : DefT K mg "_law_equal" s_l_equal ["_law_told_here", "_law_due"]
  d_l_told : DefT K mg "_law_told" s_l_told ["_law_signs", "_law_due", "_law_turn"]
  d_l_ends : DefT K mg "_law_ends" s_l_ends ["_law_texts_here"]
  d_l_cuts : DefT K mg "_law_cuts" s_l_cuts ["_law_box_here", "_law_ends_here"]
  d_l_cut_right : DefT K mg "_law_cut_right" s_l_cut_right ["_law_box_here", "_law_texts_here", "_law_turn"]
  d_l_spoilt : DefT K mg "_law_spoilt" s_l_spoilt ["_law_box_here", "_law_row", "_law_ends_here", "_law_first"]
  d_l_spoilt_right : DefT K mg "_law_spoilt_right" s_l_spoilt_right ["_law_box_here", "_law_texts_here", "_law_turn"]
  d_l_refused : DefT K mg "_law_refused" s_l_refused ["_law_door", "_law_value", "_law_turn"]
  d_l_odd : DefT K mg "_law_odd" s_l_odd ["_law_box_here", "_law_text_here"]
  d_l_doors : DefT K mg "_law_doors" s_l_doors ["_law_box_here", "_law_text_here", "_law_great"]
  d_l_many_right : DefT K mg "_law_many_right" s_l_many_right ["_law_box_here"]
  d_l_right : DefT K mg "_law_right" s_l_right ["_law_box_here", "_law_great"]
  d_law : DefT K mg "law" s_law ["_law_script"]
end K05

local macro_rules | `(tactic| walk_at "rd") => `(tactic| try simp only [Nv.e_f4, Nv.e_js0, Nv.e_js1, Nv.e_fmt, Nv.e_lrg, Nv.e_rg1, Nv.e_seq, Nv.e_next, Nv.e_asg, Nv.e_gname, Nv.e_gtup, Nv.e_gcons, Nv.e_gnil, Nv.e_gsub, Nv.e_ret, Nv.e_retN, Nv.e_if, Nv.e_drop, Nv.e_par, Nv.e_par3, Nv.e_rP2, Nv.e_rP3, Nv.e_tyes, Nv.e_disp, Nv.e_xf, L2.tPairs, L2.upd_upd, L2.upd_same, Nv.e_wipe0, Nv.e_wipe1, Nv.e_sfld, Nv.e_var, Nv.e_c, Nv.e_op, Nv.e_un, Nv.e_ri, Nv.e_ri0, Nv.e_ru, Nv.e_eq, Nv.e_ne, Nv.e_test, Nv.e_B, Nv.e_and, Nv.e_or, Nv.e_not, Nv.e_andV, Nv.e_orV, Nv.e_notV, Nv.e_ifE, Nv.e_cb, Nv.e_nil, Nv.e_cons, Nv.e_tup, Nv.e_lst1, Nv.e_fld, Nv.e_slice, Nv.e_nopart, Nv.e_part, Nv.e_bm0, Nv.e_bm, Nv.e_m1, Nv.e_cg, Nv.e_mg, Nv.e_make, Nv.e_prop, Nv.e_raise1, Nv.e_chain, Nv.e_mulS, Nv.e_slS, Nv.e_cxK, Nv.start_def, List.getElem?_cons_zero, List.getElem?_cons_succ, List.set_cons_zero, List.set_cons_succ, List.map_cons, List.map_nil, List.cons_append, List.nil_append, List.append_nil, List.length_cons, List.length_nil, List.replicate, Option.some.injEq, exists_eq_left', exists_eq_left, L2.V.bl.injEq, L2.V.int.injEq, L2.V.str.injEq, L2.V.ref.injEq, List.cons.injEq, and_true, true_and, exists_and_left, exists_and_right, ↓reduceIte, Bool.false_eq_true, Bool.true_eq_false, decide_eq_true_eq, Bool.not_eq_true', Bool.not_true, Bool.not_false, forall_eq'])

namespace K05
open PySem L2 Nv

def sigOk : PyData → Bool
  | .str z => okS z
  | _ => false
def spJ (g : PyData → Bool) : Sp := fun vs H Q _ => ∃ v d, vs = [v] ∧ DV H v d ∧ Q (.bl (g d)) H
/-- the text of a frame -/
def frT (z : Str) : Str := tx (Fr.frm (sg z))
def spFramed (CT : Addr) : Sp := fun vs H Q E => ∃ v d, vs = [v] ∧ DV H v d ∧ (∀ z, d = .str z → z.length ≤ 100000) ∧
  (∀ z, d = .str z → okS z = true → z.length ≤ 9999 → Q (.str (frT z)) H) ∧
  ((∀ z, d = .str z → okS z = true → 9999 < z.length) → ∀ dd H', H dd = none → Same H H' → H' dd = some (.xd [("given", v)]) → E (.ref CT) (some dd) H')
def endV : Option Nat → V
  | some e => .int (e : Int)
  | none => .non
def spEnd : Sp := fun vs H Q _ => ∃ (z : Str) (s : Nat), vs = [.str z, .int (s : Int)] ∧ Pl z ∧ z.length ≤ 100000 ∧ s ≤ 100000 ∧
  Q (endV (Fr.fend (sg z) s)) H
/-- what a row of frames is read as -/
def TextsAt (H : Hp) (l : Addr) (ts : List (List Nat)) : Prop := H l = some (.lst (ts.map fun t => V.str (tx t)))
def spIn (CS : Addr) : Sp := fun vs H Q E => ∃ v d, vs = [v] ∧ DV H v d ∧
  (∀ z, d = .str z → okS z = true → z.length ≤ 100000 ∧ ∀ t l H', H t = none → H l = none → l ≠ sysModules → t ≠ l → Same H H' → TextsAt H' l (Fr.parse (sg z)).1 → H' t = some (.tup [.ref l, .int ((Fr.parse (sg z)).2 : Int)]) → Q (.ref t) H') ∧
  ((∀ z, d = .str z → okS z = false) → ∀ dd H', H dd = none → Same H H' → H' dd = some (.xd [("given", v)]) → E (.ref CS) (some dd) H')
theorem four_log {n : Int} (h0 : 0 ≤ n) (h : n < 10000) : n.natAbs < 10000 := by omega
theorem dot_sg : sg (Str.ofString ".") = [46] := by decide +kernel
theorem dot_len : (Str.ofString ".").length = 1 := by decide +kernel
section
variable {P : Program} {w : World} {K : PySem.W.Frag} {mg : Str → Option Value} {base : Heap}
theorem ok_is_signs (T : Tx K mg) : FnG P w K mg base 1 T.d_is_signs.f T.d_is_signs.fd ["value"] (spJ sigOk) := by
  refine okG0 T.d_is_signs.F sc_is_signs (fun vs H Q E h => ?_) (fun cdv A outer s H vs Q E hg hr h => ?_)
  · obtain ⟨v, d, rfl, _⟩ := h
    rfl
  obtain ⟨v, d, rfl, hd, fin⟩ := h
  refine ⟨_, (pss_one (ps_ret (pe_and (pe_callB call_isi (by rfl) T.n_isinstance (by decide +kernel) (pa_cons (pv 0) (pa_cons (pe_bltn (v := .ty "str") (by rfl) T.n_str (by decide +kernel) rfl) pa_nil))) (pe_and (pe_bm0 PySem.F.plainAttrs_str PySem.F.slot_str_isascii PySem.F.type_str_isascii mt_isascii (pv 0)) (pe_one (pe_bm0 PySem.F.plainAttrs_str PySem.F.slot_str_isprintable PySem.F.type_str_isprintable mt_isprintable (pv 0))))))), ?_⟩
  walk_at "rd"
  refine r_isi hd (kit_str d) ?_
  walk_at "rd"
  cases hd with
  | str z =>
    simp only [isS]
    walk_at "rd"
    refine ⟨rfl, ?_⟩
    simp only [sigOk, okS] at fin
    cases ea : Txt.isascii z with
    | false =>
      rw [ea] at fin
      simpa using fin
    | true =>
      rw [ea] at fin
      rw [if_pos rfl]
      exact ⟨rfl, by simpa using fin⟩
  | _ =>
    simp only [isS]
    walk_at "rd"
    exact fin
theorem okx_InvalidSigns (T : Tx K mg) : FnOk P w K mg base CX0 1 T.x_InvalidSigns.f T.x_InvalidSigns.fd ["self", "given"] (spXI K "given") :=
  ok_xi T.x_InvalidSigns.F sc_InvalidSigns_init rfl (by decide) (by decide)
theorem okx_InvalidText (T : Tx K mg) : FnOk P w K mg base CX0 1 T.x_InvalidText.f T.x_InvalidText.fd ["self", "given"] (spXI K "given") :=
  ok_xi T.x_InvalidText.F sc_InvalidText_init rfl (by decide) (by decide)
theorem ok_framed (T : Tx K mg) : FnG P w K mg base 3 T.d_framed.f T.d_framed.fd ["text"] (spFramed T.C_InvalidText) := by
  refine okG T.d_framed.F sc_framed (fun vs H Q E h => ?_) (fun cdv A outer s H vs Q E hg hr h => ?_)
  · obtain ⟨v, d, rfl, _⟩ := h
    rfl
  obtain ⟨v, d, rfl, hd, hz, k1, k2⟩ := h
  refine ⟨_, (pss_cons (ps_if (PW.pt (pw_or (pt_not (pt_val (pe_cG (ok_is_signs T) T.d_is_signs.b (takes_of rfl rfl rfl rfl) hg (hr.mono (by decide)) T.d_is_signs.m T.d_is_signs.F.kp (pa_cons (pv 0) pa_nil)))) (pw_or1 (pt_cmpR op_gt (pe_callB call_len_str (by rfl) T.n_len (by decide +kernel) (pa_cons (pv 0) pa_nil)) (pe_glob (v := .int 9999) rfl T.g_MOST_SIGNS ⟨_, rfl⟩) (nomark _)))))
      (pss_one (ps_err rfl (takes_of rfl rfl rfl rfl) T.e_InvalidText (okx_InvalidText T) T.x_InvalidText.bi (hr.mono (by decide)) (pv 0)))
      pss_nil)
    (pss_one (ps_ret (pe_joined (.cons (pe_fmt04 (pe_callB call_len_str (by rfl) T.n_len (by decide +kernel) (pa_cons (pv 0) pa_nil))) (.cons (pe_fmt (pv 0)) (.cons (pe_fmt (pe_glob (v := .str ".") rfl T.g_END ⟨_, rfl⟩)) .nil))))))), ?_⟩
  walk_at "rd"
  refine ⟨v, d, rfl, hd, _, rfl, ?_⟩
  have sz : sizeLine = 16777216 := sizeLine_eq
  cases e : sigOk d with
  | false =>
    walk_at "rd"
    intro dd hdd
    exact k2 (fun z e1 e2 => by subst e1; rw [show okS z = false from e] at e2; cases e2) dd _ hdd (Same.new hdd) upd_same
  | true =>
    walk_at "rd"
    cases hd with
    | str z =>
      have lz := hz z rfl
      refine ⟨by omega, ?_⟩
      walk_at "rd"
      by_cases hl : (9999 : Int) < (z.length : Int)
      · rw [if_pos hl]
        refine ⟨by omega, fun dd hdd => ?_⟩
        refine k2 (fun y e1 e2 => ?_) dd _ hdd (Same.new hdd) upd_same
        cases e1
        omega
      · rw [if_neg hl]
        walk_at "rd"
        refine ⟨by omega, by omega, ?_⟩
        have hn : ((z.length : Int)).natAbs < 10000 := by omega
        have l4 := four_len hn
        have ee : Str.empty.length = 0 := rfl
        refine ⟨by omega, hn, by rw [append_len]; omega, .inl ⟨by omega, by rw [append_len, append_len]; omega, .inl ⟨by rw [dot_len]; omega, by rw [append_len, append_len, append_len, dot_len]; omega, ?_⟩⟩⟩
        have fe : Str.empty ++ four (z.length : Int) ++ z ++ Str.ofString "." = frT z := sg_inj (by
          rw [sg_app, sg_app, sg_app, four_sg (by omega) hn, dot_sg]
          unfold frT
          rw [sg_tx]
          unfold Fr.frm
          rw [sg_len]
          rfl)
        rw [fe]
        exact k1 z rfl e (by omega)
    | _ => cases e
theorem ok_frame_end (T : Tx K mg) : FnG P w K mg base 1 T.d_frame_end.f T.d_frame_end.fd ["signs", "start"] spEnd := by
  refine okG0 T.d_frame_end.F sc_frame_end (fun vs H Q E h => ?_) (fun cdv A outer s H vs Q E hg hr h => ?_)
  · obtain ⟨z, s, rfl, _⟩ := h
    rfl
  obtain ⟨z, st, rfl, hp, hz, hst, k⟩ := h
  refine ⟨_, (pss_cons (ps_set (i := 2) sc_frame_end.nd rfl (Or.inl rfl) (pe_slice sl_str (pv 0) (po_some (pv 1)) (po_some (pe_op op_add (pv 1) (pe_glob (v := .int 4) rfl T.g_FIGURES ⟨_, rfl⟩)))))
    (pss_cons (ps_if (PW.pt (pw_or (pt_cmpR op_lt (pe_callB call_len_str (by rfl) T.n_len (by decide +kernel) (pa_cons (pv 2) pa_nil)) (pe_glob (v := .int 4) rfl T.g_FIGURES ⟨_, rfl⟩) (nomark _)) (pw_or1 (pt_not (pt_val (pe_bm0 PySem.F.plainAttrs_str PySem.F.slot_str_isdigit PySem.F.type_str_isdigit mt_isdigit (pv 2)))))))
      (pss_one (ps_ret pe_non))
      pss_nil)
    (pss_cons (ps_set (i := 3) sc_frame_end.nd rfl (Or.inl rfl) (pe_op op_add (pe_op op_add (pe_op op_add (pv 1) (pe_glob (v := .int 4) rfl T.g_FIGURES ⟨_, rfl⟩)) (pe_callTy call_int_str (by rfl) T.n_int (by decide +kernel) (pa_cons (pv 2) pa_nil))) (pe_callB call_len_str (by rfl) T.n_len (by decide +kernel) (pa_cons (pe_glob (v := .str ".") rfl T.g_END ⟨_, rfl⟩) pa_nil))))
    (pss_cons (ps_if (pt_cmpR op_ne (pe_slice sl_str (pv 0) (po_some (pe_op op_sub (pv 3) (pe_callB call_len_str (by rfl) T.n_len (by decide +kernel) (pa_cons (pe_glob (v := .str ".") rfl T.g_END ⟨_, rfl⟩) pa_nil)))) (po_some (pv 3))) (pe_glob (v := .str ".") rfl T.g_END ⟨_, rfl⟩) (nomark _))
      (pss_one (ps_ret pe_non))
      pss_nil)
    (pss_one (ps_ret (pv 3))))))), ?_⟩
  walk_at "rd"
  have sz : sizeLine = 16777216 := sizeLine_eq
  obtain ⟨fg, hf⟩ : ∃ fg, fg = cutS z (some (st : Int)) (some ((st : Int) + 4)) := ⟨_, rfl⟩
  have sf : sg fg = ((sg z).drop st).take 4 := by
    have := cut_nat z st (st + 4)
    rw [hf]
    have e : ((st + 4 : Nat) : Int) = (st : Int) + 4 := by omega
    rw [e] at this
    rw [this]
    congr 1
    omega
  have lf : fg.length ≤ 4 := by
    rw [← sg_len, sf, List.length_take]
    omega
  have af : Asc fg := by
    rw [hf]
    exact hp.asc.cut _ _
  rw [← hf]
  refine ⟨by omega, by omega, ?_⟩
  unfold Fr.fend at k
  rw [← sf] at k
  have none_ : ¬ ((sg fg).length = 4 ∧ (sg fg).all Fr.dig = true) → Q .non H := fun h => by
    rw [if_neg h] at k
    exact k
  by_cases h4 : (fg.length : Int) < 4
  · walk_at "rd"
    rw [if_pos h4]
    walk_at "rd"
    exact none_ fun h => by rw [sg_len] at h; omega
  · walk_at "rd"
    rw [if_neg h4]
    walk_at "rd"
    refine ⟨rfl, ?_⟩
    rw [isdigit_pl af]
    have hpos : decide (0 < fg.length) = true := by simp; omega
    rw [hpos, Bool.true_and]
    by_cases hd : (sg fg).all Fr.dig = true
    · rw [hd]
      walk_at "rd"
      have h44 : (sg fg).length = 4 ∧ (sg fg).all Fr.dig = true := ⟨by rw [sg_len]; omega, hd⟩
      rw [if_pos h44] at k
      refine ⟨_, int_dig hd (by omega) (by omega), by omega, ?_⟩
      rw [dot_len]
      refine ⟨by omega, by omega, ?_⟩
      obtain ⟨n, hn⟩ : ∃ n, n = Fr.num (sg fg) := ⟨_, rfl⟩
      rw [← hn] at k ⊢
      obtain ⟨tl, ht⟩ : ∃ tl, tl = cutS z (some ((st : Int) + 4 + (n : Int) + (1 : Nat) - (1 : Nat))) (some ((st : Int) + 4 + (n : Int) + (1 : Nat))) := ⟨_, rfl⟩
      have st1 : sg tl = ((sg z).drop (st + 4 + n)).take 1 := by
        have := cut_nat z (st + 4 + n) (st + 4 + n + 1)
        have e1 : ((st + 4 + n : Nat) : Int) = (st : Int) + 4 + (n : Int) + (1 : Nat) - (1 : Nat) := by omega
        have e2 : ((st + 4 + n + 1 : Nat) : Int) = (st : Int) + 4 + (n : Int) + (1 : Nat) := by omega
        rw [e1, e2] at this
        rw [ht, this]
        congr 1
        omega
      rw [← ht]
      refine ⟨by omega, by simp [scal], ?_⟩
      rw [← st1] at k
      by_cases hq : tl = Str.ofString "."
      · simp only [hq, decide_true, Bool.true_eq_false, ↓reduceIte]
        rw [if_pos (by rw [hq, dot_sg])] at k
        have e2 : ((st + 4 + n + 1 : Nat) : Int) = (st : Int) + 4 + (n : Int) + (1 : Nat) := by omega
        have k' : Q (.int ((st + 4 + n + 1 : Nat) : Int)) H := k
        rw [e2] at k'
        exact k'
      · simp only [hq, decide_false, ↓reduceIte]
        rw [if_neg (fun e => hq (sg_inj (by rw [e, dot_sg])))] at k
        exact k
    · have hd' : (sg fg).all Fr.dig = false := by simpa using hd
      rw [hd']
      walk_at "rd"
      exact none_ fun h => hd h.2
end
end K05


namespace K05
open PySem L2 Nv

/-! draws -/
/-- the box of draws at p, of which at most N have been mixed -/
def BoxAt (H : Hp) (p : Addr) (N : Nat) : Prop := ∃ (n : Int) (b : Bool) (m c : Int), H p = some (.lst [.int n, .bl b, .int m, .int c]) ∧ 0 ≤ m ∧ m < 2147483648 ∧ 0 ≤ c ∧ c ≤ (N : Int)
theorem BoxAt.mono {H H' : Hp} {p : Addr} {N : Nat} (e : Same H H') (h : BoxAt H p N) : BoxAt H' p N := by
  obtain ⟨n, b, m, c, h, r⟩ := h
  exact ⟨n, b, m, c, e _ _ h, r⟩
theorem BoxAt.le {H : Hp} {p : Addr} {N M : Nat} (h : BoxAt H p N) (l : N ≤ M) : BoxAt H p M := by
  obtain ⟨n, b, m, c, h, r1, r2, r3, r4⟩ := h
  exact ⟨n, b, m, c, h, r1, r2, r3, by omega⟩
def spCell (K : PySem.W.Frag) : Sp := fun vs H Q _ => ∃ (a : Addr) (ns : List Int) (k : Int), vs = [.ref a, .int k] ∧ SqL K H a (ns.map V.int) ∧ 0 ≤ k ∧ k ≤ 1000 ∧ ∀ i H', Same H H' → Q (.int i) H'
def spBox : Sp := fun vs H Q _ => ∃ g, vs = [.int g] ∧ ∀ p H', H p = none → Same H H' → BoxAt H' p 0 → Q (.ref p) H'
def spTake : Sp := fun vs H Q _ => ∃ p m N, vs = [.ref p, .int m] ∧ BoxAt H p N ∧ N ≤ 1000000 ∧ 0 < m ∧ m < 1073741824 ∧
  ∀ d H', 0 ≤ d → d < m → BoxAt H' p (N + 1) → Ext1 p H H' → Q (.int d) H'
theorem fmod_in (a : Int) {m : Int} (h : 0 < m) : 0 ≤ a.fmod m ∧ a.fmod m < m := by
  rw [Int.fmod_eq_emod_of_nonneg a (Int.le_of_lt h)]
  exact ⟨Int.emod_nonneg a (by omega), Int.emod_lt_of_pos a h⟩
theorem at0 {α : Type} {xs : List α} {v : α} (h : xs[0]? = some v) : atI xs 0 = some v := atI_nat (j := 0) h
theorem at1 {α : Type} {xs : List α} {v : α} (h : xs[1]? = some v) : atI xs 1 = some v := atI_nat (j := 1) h
theorem at2 {α : Type} {xs : List α} {v : α} (h : xs[2]? = some v) : atI xs 2 = some v := atI_nat (j := 2) h
theorem at3 {α : Type} {xs : List α} {v : α} (h : xs[3]? = some v) : atI xs 3 = some v := atI_nat (j := 3) h
section
variable {P : Program} {w : World} {K : PySem.W.Frag} {mg : Str → Option Value} {base : Heap}
theorem ok_l_cell (T : Tx K mg) : FnG P w K mg base 1 T.d_l_cell.f T.d_l_cell.fd ["_law_script", "_law_k"] (spCell K) := by
  refine okG0 T.d_l_cell.F sc_l_cell (fun vs H Q E h => ?_) (fun cdv A outer s H vs Q E hg hr h => ?_)
  · obtain ⟨a, ns, k, rfl, _⟩ := h
    rfl
  obtain ⟨a, ns, k, rfl, hS, h0, h1, q⟩ := h
  refine ⟨_, (pss_one (ps_ret (pe_ifExp (pt_cmpR op_lt (pv 1) (pe_callB call_len_seq (by rfl) T.n_len (by decide +kernel) (pa_cons (pv 0) pa_nil)) (nomark _)) (pe_ix ix_list (pv 0) (pv 1) (fun _ _ => rfl)) (pe_op op_add (pe_op op_mul pe_int (pv 1)) (pe_op op_modN (pe_callB (cr_sum rfl) (by rfl) T.n_sum (by decide +kernel) (pa_cons (pe_slice sl_list (pv 0) po_none (po_some pe_int)) pa_nil)) pe_int))))), ?_⟩
  walk_at "rd"
  refine ⟨_, .inl hS, ?_⟩
  walk_at "rd"
  by_cases hk : k < ((ns.map V.int).length : Int)
  · rw [if_pos hk]
    obtain ⟨j, rfl⟩ : ∃ j : Nat, k = (j : Int) := ⟨k.toNat, by omega⟩
    have hj : j < ns.length := by
      rw [List.length_map] at hk
      omega
    refine r_ixL hS (atI_nat (j := j) (v := V.int ns[j]) (by simp [hj])) ?_
    exact q _ H (Same.refl H)
  · rw [if_neg hk]
    refine ⟨.inl (by decide), a, _, rfl, hS, fun p hp => ?_⟩
    walk_at "rd"
    have hc : cutV (ns.map V.int) none (some 1) = ((ns.drop (HT.sIx (ns.map V.int).length 0 none)).take (HT.sIx (ns.map V.int).length (ns.map V.int).length (some 1) - HT.sIx (ns.map V.int).length 0 none)).map V.int := by
      unfold cutV
      rw [List.map_take, List.map_drop]
    refine ⟨p, _, rfl, .inl (.inl (by rw [hc] at *; exact upd_same)), ?_⟩
    walk_at "rd"
    refine ⟨by decide, ?_⟩
    exact q _ _ (Same.new hp)
theorem ok_l_box (T : Tx K mg) : FnG P w K mg base 1 T.d_l_box.f T.d_l_box.fd ["_law_great"] spBox := by
  refine okG0 T.d_l_box.F sc_l_box (fun vs H Q E h => ?_) (fun cdv A outer s H vs Q E hg hr h => ?_)
  · obtain ⟨g, rfl, _⟩ := h
    rfl
  obtain ⟨g, rfl, q⟩ := h
  refine ⟨_, (pss_one (ps_ret (pe_lst1 (pa_cons (pe_callB call_abs (by rfl) T.n_abs (by decide +kernel) (pa_cons (pv 0) pa_nil)) (pa_cons (pe_cmpR op_ge (pe_callB call_abs (by rfl) T.n_abs (by decide +kernel) (pa_cons (pv 0) pa_nil)) (pe_op op_pow pe_int pe_int) (nomark _)) (pa_cons (pe_op op_modN (pe_callTy call_intI (by rfl) T.n_int (by decide +kernel) (pa_cons (pe_callB call_abs (by rfl) T.n_abs (by decide +kernel) (pa_cons (pv 0) pa_nil)) pa_nil)) pe_int) (pa_cons pe_int pa_nil))))))), ?_⟩
  walk_at "rd"
  refine ⟨by unfold CPow; decide, by decide, by decide, fun p hp _ => ?_⟩
  have f := fmod_in (if g < 0 then -g else g) (m := 2147483629) (by decide)
  exact q p _ hp (Same.new hp) ⟨_, _, _, _, upd_same, f.1, by omega, by decide, by decide⟩
theorem cmul_r {a b : Int} (h1 : -(2 ^ 64) < b) (h2 : b < 2 ^ 64) : CMul a b := .inr ⟨h1, h2⟩
theorem cmul_l {a b : Int} (h1 : -(2 ^ 64) < a) (h2 : a < 2 ^ 64) : CMul a b := .inl ⟨h1, h2⟩
theorem cpow_of {a e : Int} (h0 : 0 ≤ e) (h1 : e ≤ 1000000) (h2 : 0 ≤ a) (h3 : a < 2 ^ 64) : CPow a e := ⟨h0, h1, by omega⟩
theorem setIx {n : Nat} {j : Nat} (h : j < n) : ixN n (j : Int) = some j := by
  unfold ixN
  rw [if_pos (by omega), if_pos (by omega)]
  simp
local macro_rules | `(tactic| walk_at "mix") => `(tactic| (
  refine r_ixL (SqL.of (by assumption)) (at3 rfl) ?_
  walk_at "rd"
  refine r_setL (by assumption) (setIx (j := 3) (by show 3 < 4; decide)) ?_
  walk_at "rd"
  refine r_ixL (SqL.of upd_same) (at2 rfl) ?_
  walk_at "rd"
  refine r_ixL (SqL.of upd_same) (at3 rfl) ?_
  walk_at "rd"
  refine ⟨cmul_l (by decide) (by decide), cpow_of (by decide) (by decide) (by omega) (by omega), by decide, cmul_r (by decide) (by decide), ?_⟩
  refine r_ixL (SqL.of upd_same) (at3 rfl) ?_
  walk_at "rd"
  refine ⟨cmul_l (by decide) (by decide), cpow_of (by decide) (by decide) ?_ ?_, by decide, ⟨by decide, by decide⟩, by omega, ?_⟩))
theorem ok_l_take (T : Tx K mg) : FnG P w K mg base 1 T.d_l_take.f T.d_l_take.fd ["_law_box_here", "_law_many"] spTake := by
  refine okG0 T.d_l_take.F sc_l_take (fun vs H Q E h => ?_) (fun cdv A outer s H vs Q E hg hr h => ?_)
  · obtain ⟨p, m, N, rfl, _⟩ := h
    rfl
  obtain ⟨p, m, N, rfl, ⟨n, b, mm, c, hp, h1, h2, h3, h4⟩, hN, hm0, hm1, q⟩ := h
  refine ⟨_, (pss_cons (ps_if (PW.pt (pw_and (pt_val (pe_ix ix_list (pv 0) pe_int (fun _ _ => rfl))) (pw_and1 (pt_cmpR op_gt (pe_ix ix_list (pv 0) pe_int (fun _ _ => rfl)) pe_int (nomark _)))))
      (pss_cons (ps_set (i := 2) sc_l_take.nd rfl (Or.inl rfl) (pe_op op_modN (pe_callTy call_intI (by rfl) T.n_int (by decide +kernel) (pa_cons (pe_ix ix_list (pv 0) pe_int (fun _ _ => rfl)) pa_nil)) (pv 1)))
      (pss_cons (ps_asg (pe_op op_fdivN (pe_ix ix_list (pv 0) pe_int (fun _ _ => rfl)) (pv 1)) (pg_sub (pv 0) pe_int set_list))
      (pss_one (ps_ret (pv 2)))))
      pss_nil)
    (pss_cons (ps_asg (pe_op op_add (pe_ix ix_list (pv 0) pe_int (fun _ _ => rfl)) pe_int) (pg_sub (pv 0) pe_int set_list))
    (pss_cons (ps_set (i := 3) sc_l_take.nd rfl (Or.inl rfl) (pe_op op_modN (pe_callTy call_intI (by rfl) T.n_int (by decide +kernel) (pa_cons (pe_op op_pow (pe_op op_add (pe_op op_add (pe_ix ix_list (pv 0) pe_int (fun _ _ => rfl)) (pe_op op_mul pe_int (pe_ix ix_list (pv 0) pe_int (fun _ _ => rfl)))) pe_int) pe_int) pa_nil)) pe_int))
    (pss_one (ps_ret (pe_op op_modN (pe_op op_fdivN (pe_op op_modN (pe_callTy call_intI (by rfl) T.n_int (by decide +kernel) (pa_cons (pe_op op_pow (pe_op op_add (pe_op op_mul (pv 3) pe_int) (pe_op op_mul pe_int (pe_ix ix_list (pv 0) pe_int (fun _ _ => rfl)))) pe_int) pa_nil)) pe_int) pe_int) (pv 1))))))), ?_⟩
  walk_at "rd"
  refine r_ixL (SqL.of hp) (at1 rfl) ?_
  walk_at "rd"
  have f1 : ∀ a : Int, 0 ≤ a.fmod 2147483647 ∧ a.fmod 2147483647 < 2147483647 := fun a => fmod_in a (by decide)
  have fin : ∀ x : Int, Q (.int (x.fmod m)) (upd H p (.lst [.int n, .bl b, .int mm, .int (c + 1)])) := fun x =>
    q _ _ (fmod_in x hm0).1 (fmod_in x hm0).2 ⟨_, _, _, _, upd_same, h1, h2, by omega, by omega⟩ Ext1.upd
  by_cases hb : b = true
  · rw [if_pos hb]
    refine r_ixL (SqL.of hp) (at0 rfl) ?_
    walk_at "rd"
    by_cases hn : 0 < n
    · rw [if_pos hn]
      refine r_ixL (SqL.of hp) (at0 rfl) ?_
      walk_at "rd"
      refine ⟨by omega, ?_⟩
      refine r_ixL (SqL.of hp) (at0 rfl) ?_
      walk_at "rd"
      refine ⟨⟨by omega, by omega⟩, ?_⟩
      refine r_setL hp (setIx (j := 0) (by show 0 < 4; decide)) ?_
      exact q _ _ (fmod_in n hm0).1 (fmod_in n hm0).2 ⟨_, _, _, _, upd_same, h1, h2, h3, by omega⟩ Ext1.upd
    · rw [if_neg hn]
      walk_at "mix"
      · have := f1 ((mm + 15485917 * (c + 1) + 179424697) ^ (5 : Int).toNat)
        omega
      · have := f1 ((mm + 15485917 * (c + 1) + 179424697) ^ (5 : Int).toNat)
        omega
      · exact fin _
  · rw [if_neg hb]
    walk_at "mix"
    · have := f1 ((mm + 15485917 * (c + 1) + 179424697) ^ (5 : Int).toNat)
      omega
    · have := f1 ((mm + 15485917 * (c + 1) + 179424697) ^ (5 : Int).toNat)
      omega
    · exact fin _
end
end K05


namespace K05
open PySem L2 Nv

def intAt (σ : L2.St) (i : Nat) : Int := match σ[i]? with | some (some (V.int g)) => g | _ => 0
section
variable {P : Program} {w : World} {K : PySem.W.Frag} {mg : Str → Option Value} {base : Heap}
theorem ok_frames_in (T : Tx K mg) : FnG P w K mg base 3 T.d_frames_in.f T.d_frames_in.fd ["signs"] (spIn T.C_InvalidSigns) := by
  refine okG T.d_frames_in.F sc_frames_in (fun vs H Q E h => ?_) (fun cdv A outer s H vs Q E hg hr h => ?_)
  · obtain ⟨v, d, rfl, _⟩ := h
    rfl
  obtain ⟨v, d, rfl, hd, k1, k2⟩ := h
  refine ⟨_, (pss_cons (ps_if (pt_not (pt_val (pe_cG (ok_is_signs T) T.d_is_signs.b (takes_of rfl rfl rfl rfl) hg (hr.mono (by decide)) T.d_is_signs.m T.d_is_signs.F.kp (pa_cons (pv 0) pa_nil))))
      (pss_one (ps_err rfl (takes_of rfl rfl rfl rfl) T.e_InvalidSigns (okx_InvalidSigns T) T.x_InvalidSigns.bi (hr.mono (by decide)) (pv 0)))
      pss_nil)
    (pss_cons (ps_set (i := 1) sc_frames_in.nd rfl (Or.inl rfl) (pe_lst1 pa_nil))
    (pss_cons (ps_set (i := 2) sc_frames_in.nd rfl (Or.inl rfl) pe_int)
    (pss_cons (ps_set (i := 3) sc_frames_in.nd rfl (Or.inl rfl) (pe_cG (ok_frame_end T) T.d_frame_end.b (takes_of rfl rfl rfl rfl) hg (hr.mono (by decide)) T.d_frame_end.m T.d_frame_end.F.kp (pa_cons (pv 0) (pa_cons (pv 2) pa_nil))))
    (pss_cons (ps_while (passes_of rfl) (pt_cmpR op_notN (pv 3) pe_non (nomark _))
      (pss_cons (ps_expr (pe_bm PySem.F.plainAttrs_list PySem.F.slot_list_append PySem.F.type_list_append mt_append (pv 1) (pa_cons (pe_slice sl_str (pv 0) (po_some (pe_op op_add (pv 2) (pe_glob (v := .int 4) rfl T.g_FIGURES ⟨_, rfl⟩))) (po_some (pe_op op_sub (pv 3) (pe_callB call_len_str (by rfl) T.n_len (by decide +kernel) (pa_cons (pe_glob (v := .str ".") rfl T.g_END ⟨_, rfl⟩) pa_nil))))) pa_nil)))
      (pss_cons (ps_set (i := 2) sc_frames_in.nd rfl (Or.inl rfl) (pv 3))
      (pss_one (ps_set (i := 3) sc_frames_in.nd rfl (Or.inl rfl) (pe_cG (ok_frame_end T) T.d_frame_end.b (takes_of rfl rfl rfl rfl) hg (hr.mono (by decide)) T.d_frame_end.m T.d_frame_end.F.kp (pa_cons (pv 0) (pa_cons (pv 2) pa_nil))))))))
    (pss_one (ps_ret (pe_tup (pa_cons (pv 1) (pa_cons (pv 2) pa_nil)))))))))), ?_⟩
  walk_at "rd"
  refine ⟨v, d, rfl, hd, _, rfl, ?_⟩
  have sz : sizeLine = 16777216 := sizeLine_eq
  cases e : sigOk d with
  | false =>
    walk_at "rd"
    intro dd hdd
    exact k2 (fun z e1 => by subst e1; exact e) dd _ hdd (Same.new hdd) upd_same
  | true =>
    walk_at "rd"
    cases hd with
    | str z =>
      obtain ⟨lz, k⟩ := k1 z rfl e
      have pz := okS_pl (z := z) e
      refine ⟨by omega, ?_⟩
      intro l hl nl
      refine ⟨z, 0, rfl, pz, lz, by omega, ?_⟩
      have st0 := Fr.At.zero (sg z)
      refine while_by (fun σ H' => ∃ (g : Nat) (acc : List (List Nat)), Fr.At (sg z) g acc ∧ TextsAt H' l acc ∧ acc.length ≤ g ∧ (∀ b o, b ≠ l → H b = some o → H' b = some o) ∧
        σ = [some (.str z), some (.ref l), some (.int (g : Int)), some (endV (Fr.fend (sg z) g))])
        (fun σ _ => (100001 - intAt σ 2).toNat) ⟨0, [], st0, ?_, Nat.le_refl _, ?_, ?_⟩ ?_ ?_
      · exact upd_same
      · intro b o nb hb
        rw [upd_ne nb]
        exact hb
      · rfl
      · rintro σ H1 ⟨g, acc, hat, htx, hla, hs, rfl⟩
        walk_at "rd"
        cases he : Fr.fend (sg z) g with
        | none =>
          simp only [endV, decide_true, Bool.true_eq_false, ↓reduceIte]
          have hp := hat.stop he
          refine ⟨by decide, fun t ht => ?_⟩
          have ntl : t ≠ l := fun q => by
            rw [q, htx] at ht
            cases ht
          have htH : H t = none := by
            cases q : H t with
            | none => rfl
            | some o =>
              rw [hs t o ntl q] at ht
              cases ht
          refine k t l _ htH hl nl ntl ?_ ?_ ?_
          · intro b o hb
            have nb : b ≠ t := ne_of_none hb htH
            rw [upd_ne nb]
            exact hs b o (ne_of_none hb hl) hb
          · show upd H1 t _ l = _
            rw [upd_ne (Ne.symm ntl), hp]
            exact htx
          · rw [upd_same, hp]
        | some e =>
          have hb := Fr.fend_bounds he
          rw [sg_len] at hb
          have nn : ¬ ((V.int (e : Int)) = V.non) := fun q => by cases q
          simp only [endV, nn, decide_false, ↓reduceIte]
          refine ⟨.inl ⟨rfl, _, .inl (.inl htx)⟩, ?_⟩
          rw [dot_len]
          walk_at "rd"
          refine ⟨by omega, by omega, l, _, _, rfl, rfl, htx, ?_, ?_⟩
          · rw [List.length_map]
            omega
          refine ⟨z, e, rfl, pz, lz, by omega, ?_⟩
          refine ⟨⟨e, acc ++ [Fr.piece (sg z) (g + 4) (e - 1)], hat.step he, ?_, ?_, ?_, rfl, rfl⟩, ?_⟩
          · show upd H1 l _ l = _
            rw [upd_same, List.map_append]
            have e1 : cutS z (some ((g : Int) + 4)) (some ((e : Int) - (1 : Nat))) = tx (Fr.piece (sg z) (g + 4) (e - 1)) := sg_inj (by
              rw [sg_tx]
              have := cut_nat z (g + 4) (e - 1)
              have q1 : ((g + 4 : Nat) : Int) = (g : Int) + 4 := by omega
              have q2 : ((e - 1 : Nat) : Int) = (e : Int) - (1 : Nat) := by omega
              rw [q1, q2] at this
              rw [this]
              rfl)
            rw [e1]
            rfl
          · rw [List.length_append]
            show _ + 1 ≤ _
            omega
          · intro b o nb hb2
            rw [upd_ne nb]
            exact hs b o nb hb2
          · simp only [intAt, List.getElem?_cons_succ, List.getElem?_cons_zero]
            omega
      · intro σ H1 Q1 Q2 hq h
        obtain ⟨v, hv, _, b, eb, q⟩ := h
        cases eb
        exact ⟨v, hv, rfl, _, rfl, hq _ _ q⟩
    | _ => cases e
def spFrame : Sp := fun vs H Q _ => ∃ z, vs = [.str z] ∧ z.length ≤ 9999 ∧ Q (.str (frT z)) H
theorem ok_l_frame (T : Tx K mg) : FnG P w K mg base 1 T.d_l_frame.f T.d_l_frame.fd ["_law_text_here"] spFrame := by
  refine okG0 T.d_l_frame.F sc_l_frame (fun vs H Q E h => ?_) (fun cdv A outer s H vs Q E hg hr h => ?_)
  · obtain ⟨z, rfl, _⟩ := h
    rfl
  obtain ⟨z, rfl, hz, k⟩ := h
  refine ⟨_, (pss_cons (ps_set (i := 1) sc_l_frame.nd rfl (Or.inl rfl) (pe_callTy call_str_int (by rfl) T.n_str (by decide +kernel) (pa_cons (pe_callB call_len_str (by rfl) T.n_len (by decide +kernel) (pa_cons (pv 0) pa_nil)) pa_nil)))
    (pss_one (ps_ret (pe_op op_add_str (pe_op op_add_str (pe_op op_add_str (pe_op op_mul_str pe_str (pe_op op_sub pe_int (pe_callB call_len_str (by rfl) T.n_len (by decide +kernel) (pa_cons (pv 1) pa_nil)))) (pv 1)) (pv 0)) pe_str)))), ?_⟩
  walk_at "rd"
  have sz : sizeLine = 16777216 := sizeLine_eq
  have hn := str_nat z.length
  have hp := four_pad z.length (by omega)
  have h4 := PyProof.Rows.digits10_le (k := 4) (n := z.length) (by decide) (by omega)
  obtain ⟨y, hy⟩ : ∃ y, y = Str.ofString (toString (z.length : Int)) := ⟨_, rfl⟩
  rw [← hy] at hn ⊢
  have ly : y.length ≤ 4 := by
    rw [← sg_len, hn, List.length_map]
    exact h4
  have ly2 : y.length = (Nat.toDigits 10 z.length).length := by
    rw [← sg_len, hn, List.length_map]
  have e4 : (4 : Int) - (y.length : Int) = ((4 - y.length : Nat) : Int) := by omega
  rw [e4]
  have l0 : (Str.ofString "0").length = 1 := by decide +kernel
  have s0 : sg (Str.ofString "0") = [48] := by decide +kernel
  have ml := mul_len (Str.ofString "0") ((4 - y.length : Nat) : Int)
  rw [l0] at ml
  have fe : Txt.mul (Str.ofString "0") ((4 - y.length : Nat) : Int) ++ y ++ z ++ Str.ofString "." = frT z := sg_inj (by
    rw [sg_app, sg_app, sg_app, dot_sg, sg_mul, s0, hn, ly2]
    unfold frT
    rw [sg_tx]
    unfold Fr.frm
    rw [sg_len, ← hp]
    simp)
  refine ⟨by omega, small_log (by omega), by omega, mulOk_of (by omega) (by omega) (by omega), by omega, by rw [append_len]; omega, by rw [append_len, append_len, dot_len]; omega, ?_⟩
  rw [fe]
  exact k
end
end K05


namespace K05
open PySem L2 Nv

/-- a text's pieces are of its signs -/
theorem strs_lay (l : List Nat) (h : ∀ c ∈ l, c < 128) : PyData.canLayAll0 (l.map fun c => PyData.str ⟨#[c]⟩) = true := by
  have := (Fts.strs (D := 0) (ts := l.map fun c => [c]) (by
    intro t ht c hc
    obtain ⟨d, hd, rfl⟩ := List.mem_map.mp ht
    have : c = d := by simpa using hc
    exact this ▸ h d hd)).c
  simpa [strsD, List.map_map, Function.comp_def, tx] using this
theorem dp_ones {K : PySem.W.Frag} {H : Hp} : ∀ l : List Nat, DpAll K H (l.map fun c => V.str ⟨#[c]⟩) (l.map fun c => PyData.str ⟨#[c]⟩)
  | [] => .nil
  | c :: r => .cons (.str _) (dp_ones r)
theorem ones_depth (l : List Nat) : PyData.depthAll (l.map fun c => PyData.str ⟨#[c]⟩) = 0 := by
  induction l with
  | nil => rfl
  | cons c r ih => simp [PyData.depthAll, PyData.depth, ih]
theorem shaped_ones (l : List Nat) (h : ∀ c ∈ l, c < 128) : SeqAt.shaped (.list (l.map fun c => PyData.str ⟨#[c]⟩)) = true := by
  unfold SeqAt.shaped
  simp only [PyData.canLay0, strs_lay l h, PyData.depth, ones_depth]
  rfl
theorem eqv_nil (l : List Nat) : PyData.eqv (.list (l.map fun c => PyData.str ⟨#[c]⟩)) (.list []) = l.isEmpty := by
  cases l <;> simp [PyData.eqv, PyData.eqvAll]
theorem take_filter {l : List Nat} {i c : Nat} {f : Nat → Bool} (h : l[i]? = some c) : (l.take (i + 1)).filter f = (l.take i).filter f ++ (if f c then [c] else []) := by
  have e : l.take (i + 1) = l.take i ++ [c] := by
    rw [List.take_add_one, h]
    rfl
  rw [e, List.filter_append]
  congr 1
  cases hf : f c <;> simp [hf]
theorem filt_all (f : Nat → Bool) (l : List Nat) : (l.filter fun c => !f c).isEmpty = l.all f := by
  induction l with
  | nil => rfl
  | cons c r ih =>
    simp only [List.filter_cons, List.all_cons]
    cases f c <;> simp [ih]
theorem figs_sg : sg (Str.ofString "0123456789") = [48, 49, 50, 51, 52, 53, 54, 55, 56, 57] := by decide +kernel
theorem figs_in (c : Nat) : decide (c ∈ (Str.ofString "0123456789").cps.toList) = Fr.dig c := by
  have : (Str.ofString "0123456789").cps.toList = [48, 49, 50, 51, 52, 53, 54, 55, 56, 57] := figs_sg
  rw [this]
  unfold Fr.dig
  by_cases h1 : 48 ≤ c <;> by_cases h2 : c ≤ 57 <;> simp [h1, h2] <;> omega
def spRead : Sp := fun vs H Q _ => ∃ z, vs = [.str z] ∧ Pl z ∧ z.length ≤ 100000 ∧ ∀ t l H', H t = none → H l = none → t ≠ l → Same H H' → TextsAt H' l (Fr.parse (sg z)).1 → H' t = some (.tup [.ref l, .int ((Fr.parse (sg z)).2 : Int)]) → Q (.ref t) H'
section
variable {P : Program} {w : World} {K : PySem.W.Frag} {mg : Str → Option Value} {base : Heap}
theorem ok_l_equal (T : Tx K mg) : FnG P w K mg base 1 T.d_l_equal.f T.d_l_equal.fd ["_law_told_here", "_law_due"] (spEqual K) := by
  refine okG0 T.d_l_equal.F sc_l_equal (fun vs H Q E h => ?_) (fun cdv A outer s H vs Q E hg hr h => ?_)
  · obtain ⟨v, u, d, W, D, rfl, _⟩ := h
    rfl
  obtain ⟨v, u, d, W, D, rfl, a, b, hv, hu, f, hw, hd, k⟩ := h
  refine ⟨_, (pss_one (ps_ret (pe_and (pe_cmpR (op_eqD hr.units) (pv 0) (pv 1) (nomark _)) (pe_one (pe_cmpR op_eq (pe_callB (call_reprD hg hr.units) (by rfl) T.n_repr (by decide +kernel) (pa_cons (pv 0) pa_nil)) (pe_callB (call_reprD hg hr.units) (by rfl) T.n_repr (by decide +kernel) (pa_cons (pv 1) pa_nil)) (nomark _)))))), ?_⟩
  walk_at "rd"
  refine r_eqD a b f (by omega) ?_
  walk_at "rd"
  refine r_reprD a hv f hw (by omega) ?_
  refine r_reprD b hu f hw (by omega) ?_
  refine ⟨by simp [scal], ?_⟩
  simpa using k
theorem ok_l_read (T : Tx K mg) : FnG P w K mg base 1 T.d_l_read.f T.d_l_read.fd ["_law_signs"] spRead := by
  refine okG0 T.d_l_read.F sc_l_read (fun vs H Q E h => ?_) (fun cdv A outer s H vs Q E hg hr h => ?_)
  · obtain ⟨z, rfl, _⟩ := h
    rfl
  obtain ⟨z, rfl, pz, lz, k⟩ := h
  refine ⟨_, (pss_cons (ps_par (i := 1) (j := 2) rfl sc_l_read.nd rfl rfl (by decide) rfl rfl (pa_cons (pe_lst1 pa_nil) (pa_cons pe_int pa_nil)) (by rfl))
    (pss_cons (ps_for PassesOwn.never rfl (pi_range1 (by rfl) T.n_range (pa_cons (pe_op op_add (pe_op op_fdivN (pe_callB call_len_str (by rfl) T.n_len (by decide +kernel) (pa_cons (pv 0) pa_nil)) pe_int) pe_int) pa_nil)) (pg_name (i := 3) sc_l_read.nd rfl (Or.inl rfl))
      (pss_cons (ps_set (i := 4) sc_l_read.nd rfl (Or.inl rfl) (pe_slice sl_str (pv 0) (po_some (pv 2)) (po_some (pe_op op_add (pv 2) pe_int))))
      (pss_cons (ps_if (PW.pt (pw_or (pt_cmpR op_lt (pe_callB call_len_str (by rfl) T.n_len (by decide +kernel) (pa_cons (pv 4) pa_nil)) pe_int (nomark _)) (pw_or1 (pt_cmpR (op_neD hr.units) (pe_lc (own := [("_law_sign", 5)]) (g := gName 5) rfl sc_l_read.nd (pi_str (pv 4)) (blkOk_by (N := ["_law_signs", "_law_found", "_law_good", "_law_turn", "_law_head", "_law_sign", "_law_end"]) (sc := defScope s_l_read) (by decide +kernel)) (fun _ _ _ _ _ => pg_name (i := 5) sc_l_read.nd rfl (Or.inl rfl)) (fun _ _ _ _ _ => (pts_one (pt_cmpR op_notIn_sign (pv 5) pe_str (by rfl)))) (fun _ _ _ _ _ => (pv 5))) (pe_lst1 pa_nil) (nomark _)))))
        (pss_one (ps_ret (pe_tup (pa_cons (pv 1) (pa_cons (pv 2) pa_nil)))))
        pss_nil)
      (pss_cons (ps_set (i := 6) sc_l_read.nd rfl (Or.inl rfl) (pe_op op_add (pe_op op_add (pv 2) pe_int) (pe_callTy call_int_str (by rfl) T.n_int (by decide +kernel) (pa_cons (pv 4) pa_nil))))
      (pss_cons (ps_if (pt_cmpR op_ne (pe_slice sl_str (pv 0) (po_some (pv 6)) (po_some (pe_op op_add (pv 6) pe_int))) pe_str (nomark _))
        (pss_one (ps_ret (pe_tup (pa_cons (pv 1) (pa_cons (pv 2) pa_nil)))))
        pss_nil)
      (pss_cons (ps_expr (pe_bm PySem.F.plainAttrs_list PySem.F.slot_list_append PySem.F.type_list_append mt_append (pv 1) (pa_cons (pe_slice sl_str (pv 0) (po_some (pe_op op_add (pv 2) pe_int)) (po_some (pv 6))) pa_nil)))
      (pss_one (ps_set (i := 2) sc_l_read.nd rfl (Or.inl rfl) (pe_op op_add (pv 6) pe_int)))))))))
    (pss_one (ps_ret (pe_tup (pa_cons (pv 1) (pa_cons (pv 2) pa_nil))))))), ?_⟩
  walk_at "rd"
  have sz : sizeLine = 16777216 := sizeLine_eq
  refine ⟨by decide, fun l hl nl => ?_⟩
  have hdv : (z.length : Int).fdiv 5 = ((z.length / 5 : Nat) : Int) := by
    rw [Int.fdiv_eq_ediv_of_nonneg _ (by decide)]
    omega
  refine ⟨_, rfl, _, rfl, by omega, _, _, rfl, rfl, ⟨by decide, by decide⟩, _, _, rfl, rfl, _, rfl, by omega, by omega, ?_⟩
  rw [hdv]
  have fin : ∀ (H1 : Hp) (g : Nat) (acc : List (List Nat)), Fr.At (sg z) g acc → Fr.fend (sg z) g = none → TextsAt H1 l acc → (∀ b o, b ≠ l → H b = some o → H1 b = some o) →
      0 + 1 + 1 ≤ sizeLine ∧ ∀ (p : Addr), H1 p = none → Q (V.ref p) (upd H1 p (HO.tup [V.ref l, V.int (g : Int)])) := by
    intro H1 g acc hat he htx hs
    have hp := hat.stop he
    refine ⟨by decide, fun t ht => ?_⟩
    have ntl : t ≠ l := fun q => by
      rw [q, htx] at ht
      cases ht
    have htH : H t = none := by
      cases q : H t with
      | none => rfl
      | some o =>
        rw [hs t o ntl q] at ht
        cases ht
    refine k t l _ htH hl ntl ?_ ?_ ?_
    · intro b o hb
      rw [upd_ne (ne_of_none hb htH)]
      exact hs b o (ne_of_none hb hl) hb
    · show upd H1 t _ l = _
      rw [upd_ne (Ne.symm ntl), hp]
      exact htx
    · rw [upd_same, hp]
  refine for_range (fun i σ H' => ∃ (g : Nat) (acc : List (List Nat)) (y3 y4 y5 y6 : Option V), σ = [some (.str z), some (.ref l), some (.int (g : Int)), y3, y4, y5, y6] ∧ Fr.At (sg z) g acc ∧ TextsAt H' l acc ∧ acc.length ≤ g ∧ 5 * i ≤ g ∧
    (∀ b o, b ≠ l → H b = some o → H' b = some o)) ⟨0, [], _, _, _, _, rfl, Fr.At.zero _, upd_same, Nat.le_refl _, Nat.le_refl _, fun b o nb hb => by rw [upd_ne nb]; exact hb⟩ ?_ ?_
  · rintro i σ H1 hi ⟨g, acc, y3, y4, y5, y6, rfl, hat, htx, hla, hig, hs⟩
    walk_at "rd"
    obtain ⟨fg, hf⟩ : ∃ fg, fg = cutS z (some (g : Int)) (some ((g : Int) + 4)) := ⟨_, rfl⟩
    have sf : sg fg = ((sg z).drop g).take 4 := by
      have := cut_nat z g (g + 4)
      have e : ((g + 4 : Nat) : Int) = (g : Int) + 4 := by omega
      rw [e] at this
      rw [hf, this]
      congr 1
      omega
    have lf : fg.length ≤ 4 := by
      rw [← sg_len, sf, List.length_take]
      omega
    have af : Asc fg := by
      rw [hf]
      exact pz.asc.cut _ _
    rw [← hf]
    refine ⟨by omega, by omega, ?_⟩
    by_cases h4 : (fg.length : Int) < 4
    · rw [if_pos h4]
      refine fin H1 g acc hat ?_ htx hs
      unfold Fr.fend
      rw [← sf, sg_len, if_neg (fun h => by omega)]
    · rw [if_neg h4]
      refine ⟨V.str fg, rfl, fg, rfl, fun D hD => ?_⟩
      have hfs : fg.cps.toList = sg fg := rfl
      refine lc_it walk_str (fun i H' => H' D = some (.lst ((((sg fg).take i).filter fun c => !Fr.dig c).map fun c => V.str ⟨#[c]⟩)) ∧ Same H1 H') ⟨upd_same, Same.new hD⟩ (fun _ _ _ _ => trivial) ?_ ?_
      · rintro j x H2 H3 hj ⟨f, S⟩ ⟨rfl, c, hc, rfl⟩
        have hc' : (sg fg)[j]? = some c := by
          show fg.cps.toList[j]? = _
          rw [Array.getElem?_toList]
          exact hc
        refine ⟨rfl, ?_⟩
        walk_at "rd"
        refine ⟨c, rfl, ?_⟩
        rw [figs_in, take_filter hc']
        have hlen : ((((sg fg).take j).filter fun c => !Fr.dig c).map fun c => V.str ⟨#[c]⟩).length < sizeLine := by
          rw [List.length_map, sz]
          have h1 := List.length_filter_le (fun c => !Fr.dig c) ((sg fg).take j)
          have h2 : ((sg fg).take j).length ≤ (sg fg).length := by
            rw [List.length_take]
            omega
          rw [sg_len] at h2
          omega
        cases hd : Fr.dig c with
        | true =>
          simp only [Bool.not_true, Bool.false_eq_true, ↓reduceIte, List.append_nil]
          exact ⟨f, S⟩
        | false =>
          simp only [Bool.not_false, ↓reduceIte]
          refine ⟨_, f, hlen, ?_, fun a u ha => by rw [upd_ne (ne_of_none ha hD)]; exact S a u ha⟩
          rw [List.map_append]
          rfl
      · rintro H2 ⟨f, S⟩
        refine ⟨by decide, fun p hp np => ?_⟩
        have e : (sg fg).take fg.cps.size = sg fg := by
          apply List.take_of_length_le
          rw [sg_len]
          exact Nat.le_refl _
        rw [e] at f
        have npD : D ≠ p := ne_of_none f hp
        have S3 : Same H1 (upd H2 p (.lst [])) := Same.trans S (Same.new hp)
        obtain ⟨H3, e3⟩ : ∃ H3, upd H2 p (.lst []) = H3 := ⟨_, rfl⟩
        have f3 : H3 D = some (.lst (((sg fg).filter fun c => !Fr.dig c).map fun c => V.str ⟨#[c]⟩)) := by
          rw [← e3, upd_ne npD]
          exact f
        have p3 : H3 p = some (.lst []) := by
          rw [← e3]
          exact upd_same
        rw [e3] at S3 ⊢
        have htx3 : TextsAt H3 l acc := S3 _ _ htx
        have hs3 : ∀ b o, b ≠ l → H b = some o → H3 b = some o := fun b o nb hb => S3 _ _ (hs b o nb hb)
        refine ⟨_, _, .lst (SqL.of f3) (dp_ones _), .lst (SqL.of p3) .nil, shaped_ones _ (fun c hc => af c (List.mem_filter.mp hc).1), shaped_ones [] (by simp), ?_⟩
        rw [eqv_nil, filt_all]
        refine ⟨_, rfl, ?_⟩
        by_cases hd : (sg fg).all Fr.dig = true
        · rw [hd]
          simp only [Bool.not_true, Bool.false_eq_true, ↓reduceIte]
          have h44 : (sg fg).length = 4 ∧ (sg fg).all Fr.dig = true := ⟨by rw [sg_len]; omega, hd⟩
          refine ⟨_, int_dig hd (by omega) (by omega), by omega, by omega, by simp [scal], ?_⟩
          obtain ⟨n, hn⟩ : ∃ n, n = Fr.num (sg fg) := ⟨_, rfl⟩
          rw [← hn]
          obtain ⟨tl, ht⟩ : ∃ tl, tl = cutS z (some ((g : Int) + 4 + (n : Int))) (some ((g : Int) + 4 + (n : Int) + 1)) := ⟨_, rfl⟩
          have st1 : sg tl = ((sg z).drop (g + 4 + n)).take 1 := by
            have := cut_nat z (g + 4 + n) (g + 4 + n + 1)
            have e1 : ((g + 4 + n : Nat) : Int) = (g : Int) + 4 + (n : Int) := by omega
            have e2 : ((g + 4 + n + 1 : Nat) : Int) = (g : Int) + 4 + (n : Int) + 1 := by omega
            rw [e1, e2] at this
            rw [ht, this]
            congr 1
            omega
          rw [← ht]
          by_cases hq : tl = Str.ofString "."
          · simp only [hq, decide_true, Bool.true_eq_false, ↓reduceIte]
            have he : Fr.fend (sg z) g = some (g + 4 + n + 1) := by
              unfold Fr.fend
              rw [← sf, if_pos h44, ← hn, ← st1, hq, dot_sg, if_pos rfl]
            have hb := Fr.fend_bounds he
            rw [sg_len] at hb
            refine ⟨.inl ⟨rfl, _, .inl (.inl htx3)⟩, by omega, l, _, _, rfl, rfl, htx3, by rw [List.length_map]; omega, ?_⟩
            refine ⟨g + 4 + n + 1, ⟨by omega, _, rfl⟩, acc ++ [Fr.piece (sg z) (g + 4) (g + 4 + n + 1 - 1)], hat.step he, ?_, ?_, by omega, fun b o nb hb2 => by rw [upd_ne nb]; exact hs3 b o nb hb2⟩
            · show upd H3 l _ l = _
              rw [upd_same, List.map_append]
              have e1 : cutS z (some ((g : Int) + 4)) (some ((g : Int) + 4 + (n : Int))) = tx (Fr.piece (sg z) (g + 4) (g + 4 + n + 1 - 1)) := sg_inj (by
                rw [sg_tx]
                have := cut_nat z (g + 4) (g + 4 + n + 1 - 1)
                have q1 : ((g + 4 : Nat) : Int) = (g : Int) + 4 := by omega
                have q2 : ((g + 4 + n + 1 - 1 : Nat) : Int) = (g : Int) + 4 + (n : Int) := by omega
                rw [q1, q2] at this
                rw [this]
                rfl)
              rw [e1]
              rfl
            · rw [List.length_append]
              show _ + 1 ≤ _
              omega
          · simp only [hq, decide_false, ↓reduceIte]
            refine fin H3 g acc hat ?_ htx3 hs3
            unfold Fr.fend
            rw [← sf, if_pos h44, ← hn, ← st1, if_neg (fun e => hq (sg_inj (by rw [e, dot_sg])))]
        · have hd' : (sg fg).all Fr.dig = false := by simpa using hd
          rw [hd']
          simp only [Bool.not_false, ↓reduceIte]
          refine fin H3 g acc hat ?_ htx3 hs3
          unfold Fr.fend
          rw [← sf, if_neg (fun h => hd h.2)]
  · rintro σ H1 ⟨g, acc, y3, y4, y5, y6, rfl, hat, htx, hla, hig, hs⟩
    exfalso
    have hg := hat.1
    rw [sg_len] at hg
    omega
end
end K05


namespace K05
open PySem L2 Nv

/-- what a reading is, as data -/
def pairD (ts : List (List Nat)) (g : Nat) : PyData := .tuple [.list (strsD ts), .int (g : Int)]
theorem pair_ft {z : Str} (h : Pl z) (hl : z.length ≤ 100000) : Ft 200000 2 (pairD (Fr.parse (sg z)).1 (Fr.parse (sg z)).2) := by
  obtain ⟨h1, h2, h3⟩ := Fr.parse_inv (sg z)
  rw [sg_len] at h3
  have hw : wt (Fr.parse (sg z)).1 ≤ Fr.total (Fr.parse (sg z)).1 := by
    generalize (Fr.parse (sg z)).1 = ts
    induction ts with
    | nil => exact Nat.le_refl _
    | cons t r ih =>
      simp only [wt, Fr.total, List.map_cons, List.sum_cons] at *
      omega
  have a := Fts.strs (D := 0) (ts := (Fr.parse (sg z)).1) fun t ht c hc => (by have := pc_lt (h c (h1 t ht c hc)); omega)
  have q := Ft.tuple (Fts.cons (Ft.list a) (Fts.cons (Ft.int (D := 1) (i := ((Fr.parse (sg z)).2 : Int)) ⟨by omega, by omega⟩) (Fts.nil (W := 0) (D := 1))))
  exact q.le (by omega) (Nat.le_refl _)
theorem pair_dp {K : PySem.W.Frag} {H : Hp} {t l : Addr} {ts : List (List Nat)} {g : Nat} (h1 : H t = some (.tup [.ref l, .int (g : Int)])) (h2 : TextsAt H l ts) : Dp K H (.ref t) (pairD ts g) :=
  .tup (SqT.of h1) (.cons (.lst (SqL.of h2) (dp_strsD ts)) (.cons (.int _) .nil))
def spTold : Sp := fun vs H Q _ => ∃ z t l turn, vs = [.str z, .ref t, .int turn] ∧ Pl z ∧ z.length ≤ 100000 ∧ H t = some (.tup [.ref l, .int ((Fr.parse (sg z)).2 : Int)]) ∧ TextsAt H l (Fr.parse (sg z)).1 ∧ ∀ H', Same H H' → Q (.bl true) H'
section
variable {P : Program} {w : World} {K : PySem.W.Frag} {mg : Str → Option Value} {base : Heap}
theorem ok_l_told (T : Tx K mg) : FnG P w K mg base 4 T.d_l_told.f T.d_l_told.fd ["_law_signs", "_law_due", "_law_turn"] spTold := by
  refine okG0 T.d_l_told.F sc_l_told (fun vs H Q E h => ?_) (fun cdv A outer s H vs Q E hg hr h => ?_)
  · obtain ⟨z, t, l, turn, rfl, _⟩ := h
    rfl
  obtain ⟨z, t, l, turn, rfl, pz, lz, ht, hl, k⟩ := h
  refine ⟨_, (pss_cons (ps_set (i := 3) sc_l_told.nd rfl (Or.inl rfl) (pe_ifExp (pt_cmpR op_eq (pv 2) pe_int (nomark _)) (pe_cG (ok_frames_in T) T.d_frames_in.b takes0 hg (hr.mono (by decide)) T.d_frames_in.m T.d_frames_in.F.kp (pa_cons (pv 0) pa_nil)) (pe_cGk (ok_frames_in T) T.d_frames_in.kb rfl takes0 hg (hr.mono (by decide)) T.d_frames_in.m T.d_frames_in.F.kp (pk_cons (pv 0) pk_nil))))
    (pss_cons (ps_if (pt_not (pt_val (pe_cG (ok_l_equal T) T.d_l_equal.b takes0 hg (hr.mono (by decide)) T.d_l_equal.m T.d_l_equal.F.kp (pa_cons (pv 3) (pa_cons (pv 1) pa_nil)))))
      (pss_one (ps_ret pe_bl))
      pss_nil)
    (pss_cons (ps_set (i := 4) sc_l_told.nd rfl (Or.inl rfl) (pe_ix ix_tup (pv 3) pe_int (fun _ _ => rfl)))
    (pss_cons (ps_expr (pe_bm PySem.F.plainAttrs_list PySem.F.slot_list_append PySem.F.type_list_append mt_append (pv 4) (pa_cons pe_str pa_nil)))
    (pss_cons (ps_if (pt_cmpR op_eq (pv 2) pe_int (nomark _))
      (pss_one (ps_expr (pe_bm0 PySem.F.plainAttrs_list PySem.F.slot_list_reverse PySem.F.type_list_reverse mt_reverse (pv 4))))
      pss_nil)
    (pss_one (ps_ret (pe_cG (ok_l_equal T) T.d_l_equal.b takes0 hg (hr.mono (by decide)) T.d_l_equal.m T.d_l_equal.F.kp (pa_cons (pe_cG (ok_frames_in T) T.d_frames_in.b takes0 hg (hr.mono (by decide)) T.d_frames_in.m T.d_frames_in.F.kp (pa_cons (pv 0) pa_nil)) (pa_cons (pv 1) pa_nil)))))))))), ?_⟩
  walk_at "rd"
  have sz : sizeLine = 16777216 := sizeLine_eq
  have ft := pair_ft pz lz
  have told : ∀ (H : Hp) (Q : VK) (E : XK), (∀ t l H', H t = none → H l = none → t ≠ l → Same H H' → TextsAt H' l (Fr.parse (sg z)).1 → H' t = some (.tup [.ref l, .int ((Fr.parse (sg z)).2 : Int)]) → Q (.ref t) H') →
      spIn T.C_InvalidSigns [.str z] H Q E := fun H Q E h =>
    ⟨_, _, rfl, .str z, fun y e _ => (by cases e; exact ⟨lz, fun t l H' a b c d e f g => h t l H' a b d e f g⟩), fun h => by have := h z rfl; rw [pz.ok] at this; cases this⟩
  have ln : ((Fr.parse (sg z)).1.map fun t => V.str (tx t)).length < sizeLine := by
    have h1 := Fr.total_ge (Fr.parse (sg z)).1
    obtain ⟨_, h2, h3⟩ := Fr.parse_inv (sg z)
    rw [sg_len] at h3
    rw [List.length_map]
    omega
  refine ⟨rfl, ?_⟩
  rw [ite_self]
  refine told _ _ _ (fun t1 l1 H1 n1 n2 n3 S1 x1 e1 => ?_)
  refine ⟨_, _, _, _, _, rfl, pair_dp e1 x1, pair_dp (S1 _ _ ht) (S1 _ _ hl), .inr ⟨_, rfl⟩, .inr ⟨_, rfl⟩, ft, by decide, by decide, _, rfl, ?_⟩
  simp only [Bool.true_eq_false, ↓reduceIte]
  refine r_ixT (SqT.of e1) (at0 rfl) ?_
  refine ⟨.inl ⟨rfl, _, .inl (.inl x1)⟩, l1, _, _, rfl, rfl, x1, ln, rfl, ?_⟩
  have tl1 : t ≠ l1 := ne_of_none ht n2
  have ll1 : l ≠ l1 := ne_of_none hl n2
  have fin : ∀ (o : HO) (E : XK), spIn T.C_InvalidSigns [V.str z] (upd H1 l1 o) (fun x H2 => spEqual K [x, V.ref t] H2 Q E) E := by
    intro o E
    refine told _ _ _ (fun t2 l2 H2 m1 m2 m3 S2 x2 e2 => ?_)
    have ht2 : H2 t = some (.tup [.ref l, .int ((Fr.parse (sg z)).2 : Int)]) := S2 _ _ (by rw [upd_ne tl1]; exact S1 _ _ ht)
    have hl2 : TextsAt H2 l (Fr.parse (sg z)).1 := S2 _ _ (by rw [upd_ne ll1]; exact S1 _ _ hl)
    refine ⟨_, _, _, _, _, rfl, pair_dp e2 x2, pair_dp ht2 hl2, .inr ⟨_, rfl⟩, .inr ⟨_, rfl⟩, ft, by decide, by decide, k _ ?_⟩
    intro b o' hb
    refine S2 _ _ ?_
    rw [upd_ne (ne_of_none hb n2)]
    exact S1 _ _ hb
  by_cases h1 : turn = 1
  · rw [if_pos h1]
    refine ⟨.inl ⟨rfl, _, .inl (.inl upd_same)⟩, l1, _, rfl, rfl, upd_same, ?_⟩
    rw [upd_upd]
    exact fin _ _
  · rw [if_neg h1]
    exact fin _ _
def alpha : Str := " !\"#$&'()*+,-./0123456789:;<=>?@ABCDEFGHIJKLMNOPQRSTUVWXYZ[\\]^_`abcdefghijklmnopqrstuvwxyz{|}~"
theorem alpha_len : alpha.length = 94 := by decide +kernel
theorem alpha_pl : Pl alpha := pl_of (by decide +kernel)
theorem alpha_at {d : Int} (h0 : 0 ≤ d) (h1 : d < 94) : ∃ c, pc c = true ∧ atI alpha.cps.toList d = some c := by
  obtain ⟨j, rfl⟩ : ∃ j : Nat, d = (j : Int) := ⟨d.toNat, by omega⟩
  have hj : j < alpha.cps.toList.length := by
    have : alpha.cps.toList.length = 94 := by decide +kernel
    omega
  exact ⟨alpha.cps.toList[j], alpha_pl _ (List.getElem_mem hj), atI_nat (by simp [hj])⟩
def spAlpha : Sp := fun vs H Q _ => vs = [] ∧ Q (.str alpha) H
theorem ok_l_alphabet (T : Tx K mg) : FnG P w K mg base 1 T.d_l_alphabet.f T.d_l_alphabet.fd [] spAlpha := by
  refine okG0 T.d_l_alphabet.F sc_l_alphabet (fun vs H Q E h => ?_) (fun cdv A outer s H vs Q E hg hr h => ?_)
  · obtain ⟨rfl, _⟩ := h
    rfl
  obtain ⟨rfl, k⟩ := h
  refine ⟨_, (pss_one (ps_ret pe_str)), ?_⟩
  walk_at "rd"
  exact k
theorem frT_len (z : Str) : (frT z).length = z.length + 5 := by
  unfold frT
  rw [tx_len, Fr.frm_len, sg_len]
theorem frT_pl {z : Str} (h : Pl z) : Pl (frT z) := Pl.tx fun c hc => by
  rcases List.mem_append.mp hc with hc | hc
  · rcases List.mem_append.mp hc with hc | hc
    · have := List.all_eq_true.mp (Fr.pad_dig (sg z).length) c hc
      simp only [Fr.dig, Bool.and_eq_true, decide_eq_true_eq] at this
      simp only [pc, Bool.and_eq_true, decide_eq_true_eq]
      omega
    · exact h c hc
  · have : c = 46 := by simpa using hc
    subst this
    rfl
theorem cut_len (z : Str) (a b : Nat) : (cutS z (some (a : Int)) (some (b : Int))).length ≤ b - a := by
  rw [← sg_len, cut_nat, List.length_take]
  omega
theorem cutTo_len (z : Str) (b : Nat) : (cutS z none (some (b : Int))).length ≤ b := by
  rw [← sg_len, cut_to, List.length_take]
  omega
theorem join_sgs (l : List Nat) : Txt.join (Str.ofString "") (l.map fun c => (⟨#[c]⟩ : Str)) = tx l := join_signs l
def spText : Sp := fun vs H Q _ => ∃ p N, vs = [.ref p] ∧ BoxAt H p N ∧ N ≤ 900000 ∧ ∀ z H', z.length ≤ 64 → Pl z → BoxAt H' p (N + 15) → Ext1 p H H' → Q (.str z) H'
theorem ok_l_text (T : Tx K mg) : FnG P w K mg base 2 T.d_l_text.f T.d_l_text.fd ["_law_box_here"] spText := by
  refine okG0 T.d_l_text.F sc_l_text (fun vs H Q E h => ?_) (fun cdv A outer s H vs Q E hg hr h => ?_)
  · obtain ⟨p, N, rfl, _⟩ := h
    rfl
  obtain ⟨p, N, rfl, hp, hN, k⟩ := h
  refine ⟨_, (pss_cons (ps_asg (pe_tup (pa_cons (pe_cG0 (ok_l_alphabet T) T.d_l_alphabet.b takes0 hg (hr.mono (by decide)) T.d_l_alphabet.m T.d_l_alphabet.F.kp) (pa_cons (pe_cG (ok_l_take T) T.d_l_take.b takes0 hg (hr.mono (by decide)) T.d_l_take.m T.d_l_take.F.kp (pa_cons (pv 0) (pa_cons pe_int pa_nil))) (pa_cons (pe_cG (ok_l_take T) T.d_l_take.b takes0 hg (hr.mono (by decide)) T.d_l_take.m T.d_l_take.F.kp (pa_cons (pv 0) (pa_cons pe_int pa_nil))) (pa_cons (pe_cG (ok_l_take T) T.d_l_take.b takes0 hg (hr.mono (by decide)) T.d_l_take.m T.d_l_take.F.kp (pa_cons (pv 0) (pa_cons pe_int pa_nil))) pa_nil))))) (pg_tup rfl (pgs_cons (pg_name (i := 1) sc_l_text.nd rfl (Or.inr rfl)) (pgs_cons (pg_name (i := 2) sc_l_text.nd rfl (Or.inl rfl)) (pgs_cons (pg_name (i := 3) sc_l_text.nd rfl (Or.inl rfl)) (pgs_cons (pg_name (i := 4) sc_l_text.nd rfl (Or.inl rfl)) pgs_nil))))))
    (pss_cons (ps_if (pt_cmpR op_eq (pv 2) pe_int (nomark _))
      (pss_one (ps_ret pe_str))
      pss_nil)
    (pss_cons (ps_if (pt_cmpR op_eq (pv 2) pe_int (nomark _))
      (pss_one (ps_ret (pe_cG (ok_l_frame T) T.d_l_frame.b takes0 hg (hr.mono (by decide)) T.d_l_frame.m T.d_l_frame.F.kp (pa_cons (pe_slice sl_str (pv 1) (po_some (pv 3)) (po_some (pe_op op_add (pv 3) (pv 4)))) pa_nil))))
      pss_nil)
    (pss_cons (ps_if (pt_cmpR op_eq (pv 2) pe_int (nomark _))
      (pss_one (ps_ret (pe_op op_add_str (pe_cG (ok_l_frame T) T.d_l_frame.b takes0 hg (hr.mono (by decide)) T.d_l_frame.m T.d_l_frame.F.kp (pa_cons pe_str pa_nil)) (pe_slice sl_str (pe_cG (ok_l_frame T) T.d_l_frame.b takes0 hg (hr.mono (by decide)) T.d_l_frame.m T.d_l_frame.F.kp (pa_cons (pe_ix ix_str (pv 1) (pv 3) (fun _ _ => rfl)) pa_nil)) po_none (po_some (pv 4))))))
      pss_nil)
    (pss_cons (ps_if (pt_cmpR op_eq (pv 2) pe_int (nomark _))
      (pss_one (ps_ret (pe_op op_add_str (pe_op op_mul_str pe_str (pv 4)) pe_str)))
      pss_nil)
    (pss_cons (ps_if (pt_cmpR op_eq (pv 2) pe_int (nomark _))
      (pss_one (ps_ret (pe_slice sl_str (pe_op op_add_str (pv 1) (pv 1)) (po_some (pv 3)) (po_some (pe_op op_add (pe_op op_add (pv 3) pe_int) (pe_op op_mul pe_int (pv 4)))))))
      pss_nil)
    (pss_cons (ps_if (pt_cmpR op_eq (pv 2) pe_int (nomark _))
      (pss_one (ps_ret (pe_op op_add_str (pe_op op_add_str (pe_op op_mul_str pe_str (pv 4)) pe_str) (pe_ix ix_str (pv 1) (pv 3) (fun _ _ => rfl)))))
      pss_nil)
    (pss_one (ps_ret (pe_join pe_str (pe_lc (own := [("_law_turn", 5)]) (g := gName 5) (tt := tYes) rfl sc_l_text.nd (pi_range1 (by rfl) T.n_range (pa_cons (pv 4) pa_nil)) (blkOk_by (N := ["_law_box_here", "_law_alphabet_here", "_law_kind", "_law_at", "_law_many", "_law_turn"]) (sc := defScope s_l_text) (by decide +kernel)) (fun _ _ _ _ _ => pg_name (i := 5) sc_l_text.nd rfl (Or.inl rfl)) (fun _ _ _ _ _ => pts_nil) (fun _ _ _ _ _ => (pe_ix ix_str (pv 1) (pe_cG (ok_l_take T) T.d_l_take.b takes0 hg (hr.mono (by decide)) T.d_l_take.m T.d_l_take.F.kp (pa_cons (pv 0) (pa_cons pe_int pa_nil))) (fun _ _ => rfl)))))))))))))), ?_⟩
  walk_at "rd"
  refine ⟨rfl, ?_⟩
  refine ⟨p, 8, N, rfl, hp, by omega, by decide, by decide, fun kind H1 k0 k1 hp1 e1 => ?_⟩
  refine ⟨p, 94, _, rfl, hp1, by omega, by decide, by decide, fun at_ H2 a0 a1 hp2 e2 => ?_⟩
  refine ⟨p, 12, _, rfl, hp2, by omega, by decide, by decide, fun many H3 m0 m1 hp3 e3 => ?_⟩
  refine ⟨by decide, fun t ht => ?_⟩
  obtain ⟨H4, e4, S4, f4⟩ := gen_new (.tup [V.str alpha, V.int kind, V.int at_, V.int many]) ht
  simp only [e4]
  refine r_unp (SqT.of f4) rfl ?_
  have E4 : Ext1 p H H4 := ((e1.trans e2).trans e3).trans (Nv.Same.ext1 S4)
  have hp4 : BoxAt H4 p (N + 3) := BoxAt.mono S4 hp3
  have bx : BoxAt H4 p (N + 15) := hp4.le (by omega)
  walk_at "rd"
  have sz : sizeLine = 16777216 := sizeLine_eq
  obtain ⟨an, rfl⟩ : ∃ j : Nat, at_ = (j : Int) := ⟨at_.toNat, by omega⟩
  obtain ⟨mn, rfl⟩ : ∃ j : Nat, many = (j : Int) := ⟨many.toNat, by omega⟩
  obtain ⟨c, hc, hat⟩ := alpha_at a0 a1
  have al := alpha_len
  have ap := alpha_pl
  have dl := dot_len
  have zl : (Str.ofString "0").length = 1 := by decide +kernel
  have bl : (Str.ofString " ").length = 1 := by decide +kernel
  have tl : (Str.ofString "0002").length = 4 := by decide +kernel
  have dp : Pl (Str.ofString ".") := pl_of (by decide +kernel)
  have zp : Pl (Str.ofString "0") := pl_of (by decide +kernel)
  have bp : Pl (Str.ofString " ") := pl_of (by decide +kernel)
  have tp : Pl (Str.ofString "0002") := pl_of (by decide +kernel)
  have one : (⟨#[c]⟩ : Str).length = 1 := rfl
  have el : (Str.ofString "").length = 0 := by decide +kernel
  have ep : Pl (Str.ofString "") := pl_of (by decide +kernel)
  refine ⟨rfl, ?_⟩
  by_cases h0 : kind = 0
  · simp only [h0, ↓reduceIte]
    exact k _ H4 (by omega) ep bx E4
  simp only [h0, ↓reduceIte]
  refine ⟨rfl, ?_⟩
  by_cases h1 : kind = 1
  · simp only [h1, ↓reduceIte]
    have q1 : (an : Int) + (mn : Int) = ((an + mn : Nat) : Int) := by omega
    rw [q1]
    have cl := cut_len alpha an (an + mn)
    refine ⟨by omega, _, rfl, by omega, ?_⟩
    exact k _ H4 (by rw [frT_len]; omega) (frT_pl (ap.cut _ _)) bx E4
  simp only [h1, ↓reduceIte]
  refine ⟨rfl, ?_⟩
  by_cases h2 : kind = 2
  · simp only [h2, ↓reduceIte]
    refine ⟨_, rfl, by omega, ?_⟩
    walk_at "rd"
    refine ⟨_, _, c, rfl, rfl, by omega, hat, ?_⟩
    walk_at "rd"
    refine ⟨_, rfl, by omega, ?_⟩
    walk_at "rd"
    have fl := frT_len (⟨#[c]⟩ : Str)
    have cl := cutTo_len (frT ⟨#[c]⟩) mn
    have fe := frT_len (Str.ofString "")
    refine ⟨by omega, by omega, ?_⟩
    exact k _ H4 (by rw [append_len]; omega) ((frT_pl ep).app ((frT_pl (Pl.one hc)).cut _ _)) bx E4
  simp only [h2, ↓reduceIte]
  refine ⟨rfl, ?_⟩
  by_cases h3 : kind = 3
  · simp only [h3, ↓reduceIte]
    have ml := mul_len (Str.ofString ".") (mn : Int)
    rw [dl] at ml
    refine ⟨mulOk_of (by omega) (by omega) (by omega), by omega, ?_⟩
    exact k _ H4 (by rw [append_len]; omega) ((dp.mul _).app zp) bx E4
  simp only [h3, ↓reduceIte]
  refine ⟨rfl, ?_⟩
  by_cases h4 : kind = 4
  · simp only [h4, ↓reduceIte]
    refine ⟨by omega, cmul_l (by decide) (by decide), by rw [append_len]; omega, ?_⟩
    have q1 : (an : Int) + 40 + 2 * (mn : Int) = ((an + 40 + 2 * mn : Nat) : Int) := by omega
    rw [q1]
    have cl := cut_len (alpha ++ alpha) an (an + 40 + 2 * mn)
    exact k _ H4 (by omega) ((ap.app ap).cut _ _) bx E4
  simp only [h4, ↓reduceIte]
  refine ⟨rfl, ?_⟩
  by_cases h5 : kind = 5
  · simp only [h5, ↓reduceIte]
    have ml := mul_len (Str.ofString " ") (mn : Int)
    rw [bl] at ml
    refine ⟨mulOk_of (by omega) (by omega) (by omega), by omega, ?_⟩
    refine ⟨_, _, c, rfl, rfl, by omega, hat, ?_⟩
    walk_at "rd"
    refine ⟨by rw [append_len]; omega, ?_⟩
    exact k _ H4 (by rw [append_len, append_len]; omega) (((bp.mul _).app tp).app (Pl.one hc)) bx E4
  simp only [h5, ↓reduceIte]
  refine ⟨⟨_, rfl⟩, _, rfl, (mn : Int), rfl, by omega, by omega, fun D hD => ?_⟩
  obtain ⟨_, _, _, _, hpB, _⟩ := id hp4
  have nD : D ≠ p := fun z => by
    rw [z, hpB] at hD
    cases hD
  have E5 : ∀ o, Ext1 p H4 (upd H4 D o) := fun o a u na ha => by
    rw [upd_ne (ne_of_none ha hD)]
    exact ha
  have mto : (mn : Int).toNat = mn := by omega
  refine lc_range (lo := 0) (n := (mn : Int).toNat) (fun i H' => ∃ l : List Nat, l.length = i ∧ (∀ c ∈ l, pc c = true) ∧ H' D = some (.lst (l.map fun c => V.str ⟨#[c]⟩)) ∧ BoxAt H' p (N + 3 + i) ∧ Ext1 p H4 H')
    ⟨[], rfl, (by simp), upd_same, ?_, E5 _⟩ ?_ ?_
  · obtain ⟨n, b, m, cc, hx, r⟩ := hp4
    exact ⟨n, b, m, cc, by rw [upd_ne (Ne.symm nD)]; exact hx, r⟩
  · rintro i H' hi ⟨l, hl, hb, hD', hB, hE⟩
    refine ⟨rfl, ?_⟩
    walk_at "rd"
    refine ⟨p, 94, _, rfl, hB, by omega, by decide, by decide, fun d H5 d0 d1 hB5 e5 => ?_⟩
    obtain ⟨c2, hc2, hat2⟩ := alpha_at d0 d1
    refine ⟨_, _, c2, rfl, rfl, by omega, hat2, l.map fun c => V.str ⟨#[c]⟩, e5 _ _ nD hD', ?_, l ++ [c2], by simp [hl], ?_, ?_, ?_, ?_⟩
    · rw [List.length_map, hl, sz]
      omega
    · intro c hc
      rcases List.mem_append.mp hc with h | h
      · exact hb c h
      · have : c = c2 := by simpa using h
        rw [this]
        exact hc2
    · simp
    · obtain ⟨n, b, m, cc, hx, r1, r2, r3, r4⟩ := hB5
      exact ⟨n, b, m, cc, by rw [upd_ne (Ne.symm nD)]; exact hx, r1, r2, r3, by omega⟩
    · intro a o na ha
      rw [upd_ne (ne_of_none ha hD)]
      exact e5 a o na (hE a o na ha)
  · rintro H' ⟨l, hl, hb, hD', hB, hE⟩
    refine ⟨D, rfl, l.map fun c => ⟨#[c]⟩, .inl (.inl (.inl ?_)), ?_, ?_⟩
    · rw [hD']
      simp [List.map_map, Function.comp_def]
    · rw [el]
      have hs : ((l.map fun c => (⟨#[c]⟩ : Str)).map fun x => x.length).sum = l.length := by
        clear hl hb hD'
        induction l with
        | nil => rfl
        | cons a r ih => simp only [List.map_cons, List.sum_cons, ih, List.length_cons]; show 1 + _ = _; omega
      rw [hs]
      omega
    · rw [join_sgs]
      exact k _ H' (by rw [tx_len]; omega) (Pl.tx hb) (hB.le (by omega)) (E4.trans hE)
end
end K05


namespace K05
open PySem L2 Nv

structure GoodT (ts : List (List Nat)) : Prop where
  p : ∀ t ∈ ts, t.length ≤ 9999 ∧ ∀ c ∈ t, pc c = true
  n : ts.length ≤ 6
  t : Fr.total ts ≤ 10500
def spTexts : Sp := fun vs H Q _ => ∃ p N great, vs = [.ref p, .bl great] ∧ BoxAt H p N ∧ N ≤ 800000 ∧ ∀ l ts H', H l = none → TextsAt H' l ts → GoodT ts → BoxAt H' p (N + 150) → Ext1 p H H' → Q (.ref l) H'
theorem freeOf {p : Addr} {H H' : Hp} {N : Nat} (hb : BoxAt H' p N) (e : Ext1 p H H') {a : Addr} (h : H' a = none) : H a = none := by
  cases q : H a with
  | none => rfl
  | some o =>
    by_cases ea : a = p
    · obtain ⟨_, _, _, _, hx, _⟩ := hb
      rw [ea, hx] at h
      cases h
    · rw [e a o ea q] at h
      cases h
theorem total_snoc (ts : List (List Nat)) (t : List Nat) : Fr.total (ts ++ [t]) = Fr.total ts + (t.length + 5) := by simp [Fr.total]
section
variable {P : Program} {w : World} {K : PySem.W.Frag} {mg : Str → Option Value} {base : Heap}
theorem ok_l_texts (T : Tx K mg) : FnG P w K mg base 3 T.d_l_texts.f T.d_l_texts.fd ["_law_box_here", "_law_great"] spTexts := by
  refine okG0 T.d_l_texts.F sc_l_texts (fun vs H Q E h => ?_) (fun cdv A outer s H vs Q E hg hr h => ?_)
  · obtain ⟨p, N, great, rfl, _⟩ := h
    rfl
  obtain ⟨p, N, great, rfl, hp, hN, k⟩ := h
  refine ⟨_, (pss_cons (ps_par3 (i := 2) (j := 3) (l := 4) rfl sc_l_texts.nd rfl rfl rfl (by decide) (by decide) (by decide) rfl rfl rfl (pa_cons (pe_cG (ok_l_take T) T.d_l_take.b takes0 hg (hr.mono (by decide)) T.d_l_take.m T.d_l_take.F.kp (pa_cons (pv 0) (pa_cons pe_int pa_nil))) (pa_cons (pe_cG (ok_l_take T) T.d_l_take.b takes0 hg (hr.mono (by decide)) T.d_l_take.m T.d_l_take.F.kp (pa_cons (pv 0) (pa_cons pe_int pa_nil))) (pa_cons (pe_cG (ok_l_take T) T.d_l_take.b takes0 hg (hr.mono (by decide)) T.d_l_take.m T.d_l_take.F.kp (pa_cons (pv 0) (pa_cons pe_int pa_nil))) pa_nil))) (by rfl))
    (pss_cons (ps_if (pt_not (pt_val (pv 1)))
      (pss_one (ps_ret (pe_lc (own := [("_law_turn", 5)]) (g := gName 5) (tt := tYes) rfl sc_l_texts.nd (pi_range1 (by rfl) T.n_range (pa_cons (pv 2) pa_nil)) (blkOk_by (N := ["_law_box_here", "_law_great", "_law_many", "_law_at", "_law_size", "_law_turn", "_law_texts_here"]) (sc := defScope s_l_texts) (by decide +kernel)) (fun _ _ _ _ _ => pg_name (i := 5) sc_l_texts.nd rfl (Or.inl rfl)) (fun _ _ _ _ _ => pts_nil) (fun _ _ _ _ _ => (pe_cG (ok_l_text T) T.d_l_text.b takes0 hg (hr.mono (by decide)) T.d_l_text.m T.d_l_text.F.kp (pa_cons (pv 0) pa_nil))))))
      pss_nil)
    (pss_cons (ps_set (i := 6) sc_l_texts.nd rfl (Or.inl rfl) (pe_lst1 (pa_cons (pe_cG (ok_l_text T) T.d_l_text.b takes0 hg (hr.mono (by decide)) T.d_l_text.m T.d_l_text.F.kp (pa_cons (pv 0) pa_nil)) (pa_cons (pe_cG (ok_l_text T) T.d_l_text.b takes0 hg (hr.mono (by decide)) T.d_l_text.m T.d_l_text.F.kp (pa_cons (pv 0) pa_nil)) pa_nil))))
    (pss_cons (ps_expr (pe_bm PySem.F.plainAttrs_list PySem.F.slot_list_insert PySem.F.type_list_insert mt_insert (pv 6) (pa_cons (pv 3) (pa_cons (pe_slice sl_str (pe_op op_mul_str (pe_cG0 (ok_l_alphabet T) T.d_l_alphabet.b takes0 hg (hr.mono (by decide)) T.d_l_alphabet.m T.d_l_alphabet.F.kp) pe_int) po_none (po_some (pe_ix ix_list (pe_lst1 (pa_cons pe_int (pa_cons pe_int (pa_cons pe_int (pa_cons (pe_op op_add pe_int (pe_cG (ok_l_take T) T.d_l_take.b takes0 hg (hr.mono (by decide)) T.d_l_take.m T.d_l_take.F.kp (pa_cons (pv 0) (pa_cons pe_int pa_nil)))) pa_nil))))) (pv 4) (fun _ _ => rfl)))) pa_nil))))
    (pss_one (ps_ret (pv 6))))))), ?_⟩
  walk_at "rd"
  have sz : sizeLine = 16777216 := sizeLine_eq
  refine ⟨p, 7, N, rfl, hp, by omega, by decide, by decide, fun many H1 k0 k1 hp1 e1 => ?_⟩
  refine ⟨p, 3, _, rfl, hp1, by omega, by decide, by decide, fun at_ H2 a0 a1 hp2 e2 => ?_⟩
  refine ⟨p, 4, _, rfl, hp2, by omega, by decide, by decide, fun size H3 m0 m1 hp3 e3 => ?_⟩
  have E3 : Ext1 p H H3 := (e1.trans e2).trans e3
  walk_at "rd"
  cases great with
  | false =>
    simp only [↓reduceIte]
    refine ⟨_, rfl, many, rfl, by omega, by omega, fun D hD => ?_⟩
    obtain ⟨_, _, _, _, hpB, _⟩ := id hp3
    have nD : D ≠ p := fun z => by
      rw [z, hpB] at hD
      cases hD
    refine lc_range (lo := 0) (n := many.toNat) (fun i H' => ∃ ts : List (List Nat), ts.length = i ∧ (∀ t ∈ ts, t.length ≤ 64 ∧ ∀ c ∈ t, pc c = true) ∧ Fr.total ts ≤ 69 * i ∧ TextsAt H' D ts ∧ BoxAt H' p (N + 3 + 15 * i) ∧ Ext1 p H3 H')
      ⟨[], rfl, (by simp), Nat.le_refl _, upd_same, ?_, fun a o na ha => ?_⟩ ?_ ?_
    · obtain ⟨n, b, m, cc, hx, r⟩ := hp3
      exact ⟨n, b, m, cc, by rw [upd_ne (Ne.symm nD)]; exact hx, r⟩
    · rw [upd_ne (ne_of_none ha hD)]
      exact ha
    · rintro i H' hi ⟨ts, hl, hb, ht, hD', hB, hE⟩
      refine ⟨rfl, ?_⟩
      walk_at "rd"
      refine ⟨p, _, rfl, hB, by omega, fun z H5 lz pz hB5 e5 => ?_⟩
      refine ⟨_, e5 _ _ nD hD', by rw [List.length_map, hl, sz]; omega, ts ++ [sg z], by simp [hl], ?_, ?_, ?_, ?_, ?_⟩
      · intro t ht
        rcases List.mem_append.mp ht with h | h
        · exact hb t h
        · have : t = sg z := by simpa using h
          rw [this]
          exact ⟨by rw [sg_len]; exact lz, pz⟩
      · rw [total_snoc, sg_len]
        omega
      · show upd H5 D _ D = _
        rw [upd_same, List.map_append]
        simp [tx_sg]
      · obtain ⟨n, b, m, cc, hx, r1, r2, r3, r4⟩ := hB5
        exact ⟨n, b, m, cc, by rw [upd_ne (Ne.symm nD)]; exact hx, r1, r2, r3, by omega⟩
      · intro a o na ha
        rw [upd_ne (ne_of_none ha hD)]
        exact e5 a o na (hE a o na ha)
    · rintro H' ⟨ts, hl, hb, ht, hD', hB, hE⟩
      exact k D ts H' (freeOf hp3 E3 hD) hD' ⟨fun t h => ⟨by have := (hb t h).1; omega, (hb t h).2⟩, by omega, by omega⟩ (hB.le (by omega)) (E3.trans hE)
  | true =>
    simp only [Bool.true_eq_false, ↓reduceIte]
    refine ⟨p, _, rfl, hp3, by omega, fun z1 H4 l1 p1 hp4 e4 => ?_⟩
    refine ⟨p, _, rfl, hp4, by omega, fun z2 H5 l2 p2 hp5 e5 => ?_⟩
    refine ⟨by decide, fun q hq nq => ?_⟩
    obtain ⟨H6, e6, S6, f6⟩ := gen_new (.lst [V.str z1, V.str z2]) hq
    simp only [e6]
    have hp6 : BoxAt H6 p _ := BoxAt.mono S6 hp5
    refine ⟨.inl ⟨rfl, _, .inl (.inl f6)⟩, rfl, _, _, rfl, rfl, mulOk_of (by decide) (by decide) (by rw [alpha_len]; decide), ?_⟩
    refine ⟨p, 50, _, rfl, hp6, by omega, by decide, by decide, fun d H7 d0 d1 hp7 e7 => ?_⟩
    walk_at "rd"
    refine ⟨by decide, fun r hr2 nr => ?_⟩
    obtain ⟨H8, e8, S8, f8⟩ := gen_new (.lst [V.int 999, V.int 1000, V.int 9999, V.int (9950 + d)]) hr2
    simp only [e8]
    have nqp : q ≠ p := fun e => by
      obtain ⟨_, _, _, _, hx, _⟩ := hp5
      rw [e, hx] at hq
      cases hq
    have f8q : H8 q = some (.lst [V.str z1, V.str z2]) := S8 _ _ (e7 _ _ nqp f6)
    have hp8 : BoxAt H8 p _ := BoxAt.mono S8 hp7
    have pick : ∃ i : Nat, i ≤ 9999 ∧ atI [V.int 999, V.int 1000, V.int 9999, V.int (9950 + d)] size = some (V.int (i : Int)) := by
      have hh : size = ((0 : Nat) : Int) ∨ size = ((1 : Nat) : Int) ∨ size = ((2 : Nat) : Int) ∨ size = ((3 : Nat) : Int) := by omega
      rcases hh with e | e | e | e <;> subst e
      · exact ⟨999, by omega, atI_nat rfl⟩
      · exact ⟨1000, by omega, atI_nat rfl⟩
      · exact ⟨9999, by omega, atI_nat rfl⟩
      · exact ⟨9950 + d.toNat, by omega, by
          rw [show ((9950 + d.toNat : Nat) : Int) = 9950 + d by omega]
          exact atI_nat rfl⟩
    obtain ⟨i, hi, hat⟩ := pick
    refine r_ixL (SqL.of f8) hat ?_
    have ml := mul_len alpha 107
    rw [alpha_len] at ml
    have ml2 : (Txt.mul alpha 107).length ≤ 10058 := by
      have : 94 * (107 : Int).toNat = 10058 := by decide
      omega
    refine ⟨_, rfl, by omega, ?_⟩
    obtain ⟨y, hy⟩ : ∃ y, y = cutS (Txt.mul alpha 107) none (some (i : Int)) := ⟨_, rfl⟩
    have ly : y.length ≤ 9999 := by
      rw [hy]
      have := cutTo_len (Txt.mul alpha 107) i
      omega
    have py : Pl y := by
      rw [hy]
      exact (alpha_pl.mul _).cut _ _
    rw [← hy]
    refine ⟨_, _, _, ⟨rfl, rfl⟩, f8q, by show 2 < sizeLine; omega, a0, by omega, ?_⟩
    have E8 : Ext1 p H H8 := E3.trans (e4.trans (e5.trans ((Nv.Same.ext1 S6).trans (e7.trans (Nv.Same.ext1 S8)))))
    have hqH : H q = none := freeOf hp5 (E3.trans (e4.trans e5)) hq
    have fin : ∀ ts : List Str, (ts = [y, z1, z2] ∨ ts = [z1, y, z2] ∨ ts = [z1, z2, y]) → Q (.ref q) (upd H8 q (.lst (ts.map V.str))) := by
      intro ts hts
      refine k q (ts.map sg) _ hqH ?_ ?_ ?_ ?_
      · show upd H8 q _ q = _
        rw [upd_same, List.map_map]
        congr 2
      · have all : ∀ t ∈ ts, t.length ≤ 9999 ∧ Pl t := by
          intro t ht
          rcases hts with e | e | e <;> subst e <;> simp only [List.mem_cons, List.not_mem_nil, or_false] at ht <;> rcases ht with e | e | e <;> subst e <;> first | exact ⟨ly, py⟩ | exact ⟨by omega, p1⟩ | exact ⟨by omega, p2⟩
        refine ⟨fun t ht => ?_, ?_, ?_⟩
        · obtain ⟨a, ha, rfl⟩ := List.mem_map.mp ht
          exact ⟨by rw [sg_len]; exact (all a ha).1, (all a ha).2⟩
        · rw [List.length_map]
          rcases hts with e | e | e <;> subst e <;> show 3 ≤ 6 <;> decide
        · rcases hts with e | e | e <;> subst e <;> simp only [Fr.total, List.map_cons, List.map_nil, List.sum_cons, List.sum_nil, sg_len] <;> omega
      · obtain ⟨n, b, m, cc, hx, r1, r2, r3, r4⟩ := hp8
        exact ⟨n, b, m, cc, by rw [upd_ne (Ne.symm nqp)]; exact hx, r1, r2, r3, by omega⟩
      · intro a o na ha
        rw [upd_ne (ne_of_none ha hqH)]
        exact E8 a o na ha
    have hh : at_ = ((0 : Nat) : Int) ∨ at_ = ((1 : Nat) : Int) ∨ at_ = ((2 : Nat) : Int) := by omega
    rcases hh with e | e | e <;> subst e
    · exact fin [y, z1, z2] (.inl rfl)
    · exact fin [z1, y, z2] (.inr (.inl rfl))
    · exact fin [z1, z2, y] (.inr (.inr rfl))
end
end K05


namespace K05
open PySem L2 Nv

def eV (n : Nat) : V := .int (n : Int)
def EndsAt (H : Hp) (e : Addr) (ts : List (List Nat)) : Prop := H e = some (.lst ((Fr.ends ts 0).map eV))
theorem at_last {α : Type} (xs : List α) (v : α) : atI (xs ++ [v]) (-1) = some v := by
  unfold atI ixN
  rw [if_neg (by decide), if_pos (by rw [List.length_append]; show -((xs.length + 1 : Nat) : Int) ≤ -1; omega)]
  show (xs ++ [v])[(-1 + ((xs ++ [v]).length : Int)).toNat]? = some v
  have : (-1 + ((xs ++ [v]).length : Int)).toNat = xs.length := by
    rw [List.length_append]
    show (-1 + ((xs.length + 1 : Nat) : Int)).toNat = _
    omega
  rw [this]
  simp
theorem ends_last (ts : List (List Nat)) : atI ((Fr.ends ts 0).map eV) (-1) = some (V.int (Fr.total ts : Int)) := by
  obtain ⟨i, hi⟩ := Fr.ends_split ts 0
  rw [hi, List.map_append, Nat.zero_add]
  exact at_last (i.map eV) (eV (Fr.total ts))
theorem take_snoc {α : Type} {l : List α} {i : Nat} {x : α} (h : l[i]? = some x) : l.take (i + 1) = l.take i ++ [x] := by
  rw [List.take_add_one, h]
  rfl
def spEnds (K : PySem.W.Frag) : Sp := fun vs H Q _ => ∃ l ts, vs = [.ref l] ∧ TextsAt H l ts ∧ ts.length ≤ 1000 ∧ (∀ t ∈ ts, t.length ≤ 9999) ∧ ∀ e H', H e = none → Same H H' → EndsAt H' e ts → Q (.ref e) H'
section
variable {P : Program} {w : World} {K : PySem.W.Frag} {mg : Str → Option Value} {base : Heap}
theorem ok_l_ends (T : Tx K mg) : FnG P w K mg base 1 T.d_l_ends.f T.d_l_ends.fd ["_law_texts_here"] (spEnds K) := by
  refine okG0 T.d_l_ends.F sc_l_ends (fun vs H Q E h => ?_) (fun cdv A outer s H vs Q E hg hr h => ?_)
  · obtain ⟨l, ts, rfl, _⟩ := h
    rfl
  obtain ⟨l, ts, rfl, hl, hn, hb, k⟩ := h
  refine ⟨_, (pss_cons (ps_set (i := 1) sc_l_ends.nd rfl (Or.inl rfl) (pe_lst1 (pa_cons pe_int pa_nil)))
    (pss_cons (ps_for PassesOwn.never rfl (pi_list (pv 0)) (pg_name (i := 2) sc_l_ends.nd rfl (Or.inl rfl))
      (pss_one (ps_expr (pe_bm PySem.F.plainAttrs_list PySem.F.slot_list_append PySem.F.type_list_append mt_append (pv 1) (pa_cons (pe_op op_add (pe_op op_add (pe_ix ix_list (pv 1) (pe_un un_neg pe_int) (fun _ _ => rfl)) (pe_callB call_len_str (by rfl) T.n_len (by decide +kernel) (pa_cons (pv 2) pa_nil))) pe_int) pa_nil)))))
    (pss_one (ps_ret (pv 1))))), ?_⟩
  walk_at "rd"
  have sz : sizeLine = 16777216 := sizeLine_eq
  refine ⟨by decide, fun e he _ => ?_⟩
  refine ⟨_, rfl, l, rfl, ⟨_, SqL.of (show upd H e _ l = _ from by rw [upd_ne (ne_of_none hl he)]; exact hl)⟩, ?_⟩
  refine for_list (K := K) (a := l) (xs := ts.map fun t => V.str (tx t)) (fun i σ H' => (∃ y, σ = [some (.ref l), some (.ref e), y]) ∧ EndsAt H' e (ts.take i) ∧ ∀ b o, b ≠ e → H b = some o → H' b = some o)
    ⟨⟨_, rfl⟩, upd_same, fun b o nb hb => by rw [upd_ne nb]; exact hb⟩ (fun i σ H' _ ⟨_, _, h⟩ => SqL.of (h _ _ (ne_of_none hl he) hl)) ?_ ?_
  · rintro i x σ H1 hx ⟨⟨y, rfl⟩, h1, h2⟩
    rw [List.getElem?_map] at hx
    obtain ⟨t, ht, rfl⟩ := Option.map_eq_some_iff.mp hx
    have htm := List.mem_of_getElem? ht
    have lt := hb t htm
    walk_at "rd"
    refine ⟨.inl ⟨rfl, _, .inl (.inl h1)⟩, ?_⟩
    refine r_ixL (SqL.of h1) (ends_last _) ?_
    walk_at "rd"
    rw [tx_len]
    refine ⟨by omega, e, _, _, rfl, rfl, h1, ?_, ⟨_, rfl⟩, ?_, fun b o nb hb2 => by rw [upd_ne nb]; exact h2 b o nb hb2⟩
    · rw [List.length_map, Fr.ends_len, List.length_take]
      omega
    · show upd H1 e _ e = _
      rw [upd_same, take_snoc ht, Fr.ends_snoc, List.map_append]
      congr 3
      show [V.int _] = [V.int _]
      congr 2
      omega
  · rintro σ H1 ⟨⟨y, rfl⟩, h1, h2⟩
    walk_at "rd"
    rw [List.length_map, List.take_length] at h1
    exact k e H1 he (fun b o hb => h2 b o (ne_of_none hb he) hb) h1
theorem ends_drop (ts : List (List Nat)) : ∀ n ∈ (Fr.ends ts 0).drop 1, 5 ≤ n ∧ n ≤ Fr.total ts := by
  intro n hn
  have h2 := Fr.ends_ge ts 0 n (List.mem_of_mem_drop hn)
  refine ⟨?_, by omega⟩
  cases ts with
  | nil => simp [Fr.ends] at hn
  | cons t r =>
    rw [Fr.ends, List.drop_succ_cons, List.drop_zero] at hn
    have := Fr.ends_ge r _ n hn
    omega
theorem cutV_from (xs : List V) (a : Nat) : cutV xs (some (a : Int)) none = xs.drop a := by
  unfold cutV
  rw [HT.sIx_nat, HT.sIx_none]
  by_cases h : a ≤ xs.length
  · rw [Nat.min_eq_left h, List.take_of_length_le (by rw [List.length_drop]; exact Nat.le_refl _)]
  · rw [Nat.min_eq_right (by omega), List.drop_of_length_le (Nat.le_refl _), List.drop_of_length_le (by omega)]
    simp
theorem cutV_sub {α : Type} (l : List α) (f : α → V) (lo hi : Option Int) : ∃ m : List α, cutV (l.map f) lo hi = m.map f ∧ m.length ≤ l.length ∧ ∀ x ∈ m, x ∈ l := by
  refine ⟨(l.drop (HT.sIx (l.map f).length 0 lo)).take (HT.sIx (l.map f).length (l.map f).length hi - HT.sIx (l.map f).length 0 lo), ?_, ?_, fun x hx => List.mem_of_mem_drop (List.mem_of_mem_take hx)⟩
  · unfold cutV
    rw [List.map_take, List.map_drop]
  · rw [List.length_take, List.length_drop]
    omega
theorem box_ne {H : Hp} {p q : Addr} {N : Nat} {xs : List V} (hb : BoxAt H p N) (h : H q = some (.lst xs)) (hx : ∀ x ∈ xs, ∃ i, x = .int i) : q ≠ p := fun e => by
  obtain ⟨n, b, m, c, hp, _⟩ := hb
  rw [e, hp] at h
  have h2 := HO.lst.inj (Option.some.inj h)
  obtain ⟨i, hi⟩ := hx (.bl b) (by rw [← h2]; simp)
  cases hi
def IntsAt (H : Hp) (c : Addr) (cs : List Int) : Prop := H c = some (.lst (cs.map V.int))
def spCuts : Sp := fun vs H Q _ => ∃ p N e ts, vs = [.ref p, .ref e] ∧ BoxAt H p N ∧ N ≤ 900000 ∧ EndsAt H e ts ∧ ts.length ≤ 6 ∧ Fr.total ts ≤ 10500 ∧
  ∀ c cs H', H c = none → IntsAt H' c cs → (∀ i ∈ cs, 0 ≤ i ∧ i ≤ 30000) → cs.length ≤ 200 → BoxAt H' p (N + 4) → Ext1 p H H' → Q (.ref c) H'
theorem ok_l_cuts (T : Tx K mg) : FnG P w K mg base 2 T.d_l_cuts.f T.d_l_cuts.fd ["_law_box_here", "_law_ends_here"] spCuts := by
  refine okG0 T.d_l_cuts.F sc_l_cuts (fun vs H Q E h => ?_) (fun cdv A outer s H vs Q E hg hr h => ?_)
  · obtain ⟨p, N, e, ts, rfl, _⟩ := h
    rfl
  obtain ⟨p, N, e, ts, rfl, hp, hN, he, hn, ht, k⟩ := h
  refine ⟨_, (pss_cons (ps_if (pt_cmpR op_le (pe_ix ix_list (pv 1) (pe_un un_neg pe_int) (fun _ _ => rfl)) pe_int (nomark _))
      (pss_one (ps_ret (pe_listRg rfl (by rfl) T.n_list (prg_1 (by rfl) T.n_range (pe_op op_add (pe_ix ix_list (pv 1) (pe_un un_neg pe_int) (fun _ _ => rfl)) pe_int)))))
      pss_nil)
    (pss_cons (ps_if (pt_cmpR op_gt (pe_ix ix_list (pv 1) (pe_un un_neg pe_int) (fun _ _ => rfl)) pe_int (nomark _))
      (pss_one (ps_ret (pe_lst1 (pa_cons (pe_ix ix_list (pv 1) pe_int (fun _ _ => rfl)) (pa_cons (pe_op op_sub (pe_ix ix_list (pv 1) (pe_un un_neg pe_int) (fun _ _ => rfl)) pe_int) (pa_cons (pe_cG (ok_l_take T) T.d_l_take.b takes0 hg (hr.mono (by decide)) T.d_l_take.m T.d_l_take.F.kp (pa_cons (pv 0) (pa_cons (pe_op op_add (pe_ix ix_list (pv 1) (pe_un un_neg pe_int) (fun _ _ => rfl)) pe_int) pa_nil))) pa_nil))))))
      pss_nil)
    (pss_cons (ps_set (i := 2) sc_l_cuts.nd rfl (Or.inl rfl) (pe_callB cr_sortedI (by rfl) T.n_sorted (by decide +kernel) (pa_cons (pe_op op_cat (pe_op op_cat (pv 1) (pe_lc (own := [("_law_end", 3)]) (g := gName 3) (tt := tYes) rfl sc_l_cuts.nd (pi_list (pe_slice sl_list (pv 1) (po_some pe_int) po_none)) (blkOk_by (N := ["_law_box_here", "_law_ends_here", "_law_near", "_law_end", "_law_turn"]) (sc := defScope s_l_cuts) (by decide +kernel)) (fun _ _ _ _ _ => pg_name (i := 3) sc_l_cuts.nd rfl (Or.inl rfl)) (fun _ _ _ _ _ => pts_nil) (fun _ _ _ _ _ => (pe_op op_sub (pv 3) pe_int)))) (pe_lc (own := [("_law_end", 3)]) (g := gName 3) (tt := tYes) rfl sc_l_cuts.nd (pi_list (pe_slice sl_list (pv 1) po_none (po_some (pe_un un_neg pe_int)))) (blkOk_by (N := ["_law_box_here", "_law_ends_here", "_law_near", "_law_end", "_law_turn"]) (sc := defScope s_l_cuts) (by decide +kernel)) (fun _ _ _ _ _ => pg_name (i := 3) sc_l_cuts.nd rfl (Or.inl rfl)) (fun _ _ _ _ _ => pts_nil) (fun _ _ _ _ _ => (pe_op op_add (pv 3) pe_int)))) pa_nil)))
    (pss_one (ps_ret (pe_op op_cat (pv 2) (pe_lc (own := [("_law_turn", 4)]) (g := gName 4) (tt := tYes) rfl sc_l_cuts.nd (pi_range1 (by rfl) T.n_range (pa_cons pe_int pa_nil)) (blkOk_by (N := ["_law_box_here", "_law_ends_here", "_law_near", "_law_end", "_law_turn"]) (sc := defScope s_l_cuts) (by decide +kernel)) (fun _ _ _ _ _ => pg_name (i := 4) sc_l_cuts.nd rfl (Or.inl rfl)) (fun _ _ _ _ _ => pts_nil) (fun _ _ _ _ _ => (pe_cG (ok_l_take T) T.d_l_take.b takes0 hg (hr.mono (by decide)) T.d_l_take.m T.d_l_take.F.kp (pa_cons (pv 0) (pa_cons (pe_op op_add (pe_ix (ix_listK (K := K) rfl) (pv 1) (pe_un un_neg pe_int) (fun _ _ => rfl)) pe_int) pa_nil))))))))))), ?_⟩
  walk_at "rd"
  have sz : sizeLine = 16777216 := sizeLine_eq
  refine r_ixL (SqL.of he) (ends_last _) ?_
  walk_at "rd"
  have hel := ends_last ts
  have hlen := Fr.ends_len ts 0
  have fin : ∀ (H2 : Hp) (c : Addr) (cs : List Int), BoxAt H2 p (N + 4) → Ext1 p H H2 → H2 c = none → (∀ i ∈ cs, 0 ≤ i ∧ i ≤ 30000) → cs.length ≤ 200 → Q (.ref c) (upd H2 c (.lst (cs.map V.int))) := by
    intro H2 c cs hb E2 hc h1 h2
    exact k c cs _ (freeOf hb E2 hc) upd_same h1 h2 (BoxAt.mono (Same.new hc) hb) (E2.trans (Nv.Same.ext1 (Same.new hc)))
  have box4 : BoxAt H p (N + 4) := hp.le (by omega)
  by_cases h5 : (Fr.total ts : Int) ≤ 50
  · rw [if_pos h5]
    refine r_ixL (SqL.of he) hel ?_
    walk_at "rd"
    refine ⟨RgOk.of_le (by omega) (by omega) (by omega) (by omega), fun c hc => ?_⟩
    have e0 : rgV 0 ((Fr.total ts : Int) + 1) = ((List.range ((Fr.total ts : Int) + 1 - 0).toNat).map fun i => (0 : Int) + ((i : Nat) : Int)).map V.int := by
      unfold rgV
      rw [List.map_map]
      rfl
    rw [e0]
    refine fin H c _ box4 (Ext1.refl _ _) hc ?_ ?_
    · intro i hi
      obtain ⟨j, hj, rfl⟩ := List.mem_map.mp hi
      have := List.mem_range.mp hj
      omega
    · rw [List.length_map, List.length_range]
      omega
  rw [if_neg h5]
  refine r_ixL (SqL.of he) hel ?_
  walk_at "rd"
  by_cases h9 : (900 : Int) < (Fr.total ts : Int)
  · simp only [h9, decide_true, ↓reduceIte]
    have h1 : 1 ≤ ts.length := by
      cases ts with
      | nil => exact absurd h9 (by decide)
      | cons _ _ => simp
    have hat := Fr.ends_at ts 0 1 h1
    have hle := Fr.ends_ge ts 0 _ (List.mem_of_getElem? hat)
    refine r_ixL (v := eV (0 + Fr.total (ts.take 1))) (SqL.of he) (at1 (by rw [List.getElem?_map, hat]; rfl)) ?_
    refine r_ixL (SqL.of he) hel ?_
    walk_at "rd"
    refine r_ixL (SqL.of he) hel ?_
    walk_at "rd"
    refine ⟨p, _, N, rfl, hp, by omega, by omega, by omega, fun d H1 d0 d1 hp1 e1 => ⟨by decide, fun c hc _ => ?_⟩⟩
    refine fin H1 c [((0 + Fr.total (ts.take 1) : Nat) : Int), (Fr.total ts : Int) - 1, d] (hp1.le (by omega)) e1 hc ?_ (by show 3 ≤ 200; decide)
    intro i hi
    simp only [List.mem_cons, List.not_mem_nil, or_false] at hi
    omega
  simp only [h9, decide_false, Bool.false_eq_true, ↓reduceIte]
  refine ⟨_, rfl, 1, rfl, e, _, rfl, SqL.of he, fun q1 hq1 => ?_⟩
  obtain ⟨H1, e1, S1, f1⟩ := gen_new (.lst (cutV ((Fr.ends ts 0).map eV) (some 1) none)) hq1
  simp only [e1]
  have f1' : H1 q1 = some (.lst (((Fr.ends ts 0).drop 1).map eV)) := by
    have := cutV_from ((Fr.ends ts 0).map eV) 1
    rw [f1, List.map_drop, ← this]
    rfl
  refine ⟨q1, rfl, ⟨_, SqL.of f1'⟩, fun D1 hD1 => ?_⟩
  refine lc_list (K := K) (a := q1) (xs := ((Fr.ends ts 0).drop 1).map eV) (fun i H' => H' D1 = some (.lst ((((Fr.ends ts 0).drop 1).take i).map fun n : Nat => V.int ((n : Int) - 1))) ∧ Same H1 H') ⟨upd_same, Same.new hD1⟩ (fun i H' _ h => SqL.of (h.2 _ _ f1')) ?_ ?_
  · rintro i x H' hx ⟨f, S⟩
    rw [List.getElem?_map] at hx
    obtain ⟨n, hn2, rfl⟩ := Option.map_eq_some_iff.mp hx
    rw [show eV n = V.int (n : Int) from rfl]
    refine ⟨rfl, ?_⟩
    walk_at "rd"
    refine ⟨_, f, ?_, ?_, fun a u ha => by rw [upd_ne (ne_of_none ha hD1)]; exact S a u ha⟩
    · rw [List.length_map, List.length_take, List.length_drop]
      omega
    · rw [take_snoc hn2, List.map_append]
      rfl
  rintro H2 ⟨f2, S2⟩
  rw [List.length_map, List.take_length] at f2
  have S02 := Same.trans S1 S2
  have he2 : EndsAt H2 e ts := S02 _ _ he
  refine ⟨e, D1, _, _, rfl, rfl, he2, f2, ?_, fun q2 hq2 => ?_⟩
  · rw [List.length_map, List.length_map, List.length_drop]
    omega
  obtain ⟨H3, e3, S3, f3⟩ := gen_new (.lst ((Fr.ends ts 0).map eV ++ ((Fr.ends ts 0).drop 1).map fun n : Nat => V.int ((n : Int) - 1))) hq2
  simp only [e3]
  have S03 := Same.trans S02 S3
  have he3 : EndsAt H3 e ts := S03 _ _ he
  refine ⟨_, rfl, _, rfl, _, rfl, e, _, rfl, SqL.of he3, fun q3 hq3 => ?_⟩
  obtain ⟨m, hm, hml, hms⟩ := cutV_sub (Fr.ends ts 0) eV none (some (-1))
  obtain ⟨H4, e4, S4, f4⟩ := gen_new (.lst (cutV ((Fr.ends ts 0).map eV) none (some (-1)))) hq3
  simp only [e4]
  rw [hm] at f4
  refine ⟨q3, rfl, ⟨_, SqL.of f4⟩, fun D2 hD2 => ?_⟩
  refine lc_list (K := K) (a := q3) (xs := m.map eV) (fun i H' => H' D2 = some (.lst ((m.take i).map fun n : Nat => V.int ((n : Int) + 4))) ∧ Same H4 H') ⟨upd_same, Same.new hD2⟩ (fun i H' _ h => SqL.of (h.2 _ _ f4)) ?_ ?_
  · rintro i x H' hx ⟨f, S⟩
    rw [List.getElem?_map] at hx
    obtain ⟨n, hn2, rfl⟩ := Option.map_eq_some_iff.mp hx
    rw [show eV n = V.int (n : Int) from rfl]
    refine ⟨rfl, ?_⟩
    walk_at "rd"
    refine ⟨_, f, ?_, ?_, fun a u ha => by rw [upd_ne (ne_of_none ha hD2)]; exact S a u ha⟩
    · rw [List.length_map, List.length_take]
      omega
    · rw [take_snoc hn2, List.map_append]
      rfl
  rintro H5 ⟨f5, S5⟩
  rw [List.length_map, List.take_length] at f5
  have S35 := Same.trans S4 S5
  have f3' := S35 _ _ f3
  refine ⟨q2, D2, _, _, rfl, rfl, f3', f5, ?_, fun q4 hq4 => ?_⟩
  · rw [List.length_append, List.length_map, List.length_map, List.length_map, List.length_drop]
    omega
  obtain ⟨cs, hcs⟩ : ∃ cs : List Int, cs = (Fr.ends ts 0).map (fun n : Nat => (n : Int)) ++ ((Fr.ends ts 0).drop 1).map (fun n : Nat => (n : Int) - 1) ++ m.map (fun n : Nat => (n : Int) + 4) := ⟨_, rfl⟩
  have ecs : (Fr.ends ts 0).map eV ++ (((Fr.ends ts 0).drop 1).map fun n : Nat => V.int ((n : Int) - 1)) ++ (m.map fun n : Nat => V.int ((n : Int) + 4)) = cs.map V.int := by
    rw [hcs, List.map_append, List.map_append, List.map_map, List.map_map, List.map_map]
    rfl
  rw [ecs]
  have bcs : ∀ i ∈ cs, 0 ≤ i ∧ i ≤ 30000 := by
    intro i hi
    rw [hcs] at hi
    rcases List.mem_append.mp hi with hi | hi
    · rcases List.mem_append.mp hi with hi | hi
      · obtain ⟨n, hn2, rfl⟩ := List.mem_map.mp hi
        have := Fr.ends_ge ts 0 n hn2
        omega
      · obtain ⟨n, hn2, rfl⟩ := List.mem_map.mp hi
        have := ends_drop ts n hn2
        omega
    · obtain ⟨n, hn2, rfl⟩ := List.mem_map.mp hi
      have := Fr.ends_ge ts 0 n (hms n hn2)
      omega
  have lcs : cs.length ≤ 30 := by
    rw [hcs, List.length_append, List.length_append, List.length_map, List.length_map, List.length_map, List.length_drop]
    omega
  obtain ⟨H6, e6, S6, f6⟩ := gen_new (.lst (cs.map V.int)) hq4
  simp only [e6]
  refine ⟨q4, cs, rfl, SqL.of f6, fun ns q5 hperm _ hq5 => ?_⟩
  obtain ⟨H7, e7, S7, f7⟩ := gen_new (.lst (ns.map V.int)) hq5
  simp only [e7]
  have S07 : Same H H7 := Same.trans S03 (Same.trans S35 (Same.trans S6 S7))
  have he7 : EndsAt H7 e ts := S07 _ _ he
  have hp7 : BoxAt H7 p N := BoxAt.mono S07 hp
  refine ⟨4, rfl, by decide, by decide, fun D hD => ?_⟩
  obtain ⟨_, _, _, _, hpB, _⟩ := id hp7
  have nD : D ≠ p := fun z => by
    rw [z, hpB] at hD
    cases hD
  have n5 : q5 ≠ p := box_ne hp7 f7 fun x hx => by
    obtain ⟨i, _, rfl⟩ := List.mem_map.mp hx
    exact ⟨i, rfl⟩
  have nep : e ≠ p := box_ne hp7 he7 fun x hx => by
    obtain ⟨i, _, rfl⟩ := List.mem_map.mp hx
    exact ⟨_, rfl⟩
  refine lc_range (lo := 0) (n := (4 : Int).toNat) (fun i H' => ∃ l : List Int, l.length = i ∧ (∀ c ∈ l, 0 ≤ c ∧ c ≤ 30000) ∧ H' D = some (.lst (l.map V.int)) ∧ BoxAt H' p (N + i) ∧ Ext1 p H7 H')
    ⟨[], rfl, (by simp), upd_same, ?_, fun a o na ha => ?_⟩ ?_ ?_
  · obtain ⟨n, b, mm, cc, hx, r⟩ := hp7
    exact ⟨n, b, mm, cc, by rw [upd_ne (Ne.symm nD)]; exact hx, r⟩
  · rw [upd_ne (ne_of_none ha hD)]
    exact ha
  · rintro i H' hi ⟨l, hl, hb, hD', hB, hE⟩
    refine ⟨rfl, ?_⟩
    walk_at "rd"
    have hi4 : i < 4 := hi
    refine r_ixL (SqL.of (hE _ _ nep he7)) hel ?_
    walk_at "rd"
    refine ⟨p, _, _, rfl, hB, by omega, by omega, by omega, fun d H8 d0 d1 hB8 e8 => ?_⟩
    refine ⟨_, e8 _ _ nD hD', by rw [List.length_map, hl, sz]; omega, l ++ [d], by simp [hl], ?_, ?_, ?_, ?_⟩
    · intro c hc
      rcases List.mem_append.mp hc with h | h
      · exact hb c h
      · have : c = d := by simpa using h
        rw [this]
        omega
    · rw [List.map_append]
      rfl
    · obtain ⟨n, b, mm, cc, hx, r1, r2, r3, r4⟩ := hB8
      exact ⟨n, b, mm, cc, by rw [upd_ne (Ne.symm nD)]; exact hx, r1, r2, r3, by omega⟩
    · intro a o na ha
      rw [upd_ne (ne_of_none ha hD)]
      exact e8 a o na (hE a o na ha)
  · rintro H8 ⟨l, hl, hb, hD', hB, hE⟩
    have hl4 : l.length = 4 := hl
    refine ⟨q5, D, _, _, rfl, rfl, hE _ _ n5 f7, hD', ?_, fun c hc => ?_⟩
    · rw [List.length_map, List.length_map, hperm.length_eq]
      omega
    rw [← List.map_append]
    refine fin H8 c _ hB ((Nv.Same.ext1 S07).trans hE) hc ?_ ?_
    · intro i hi
      rcases List.mem_append.mp hi with h | h
      · exact bcs i (hperm.mem_iff.mp h)
      · exact hb i h
    · rw [List.length_append, hperm.length_eq]
      omega
end
end K05


namespace K05
open PySem L2 Nv

theorem sg_join : ∀ l : List Str, sg (Str.join ⟨#[]⟩ l) = (l.map sg).flatten
  | [] => rfl
  | [k] => by simp [Str.join]
  | k :: m :: r => by
    have ih := sg_join (m :: r)
    show sg (k ++ ⟨#[]⟩ ++ Str.join ⟨#[]⟩ (m :: r)) = _
    rw [sg_app, sg_app, ih]
    simp [sg]
theorem rowOf (ts : List (List Nat)) : Txt.join (Str.ofString "") (ts.map fun t => frT (tx t)) = tx (Fr.row ts) := by
  show Builtin.Str.glued Str.empty _ = _
  rw [StrLaws.glued_eq_join]
  refine sg_inj ?_
  rw [sg_tx]
  have := sg_join (ts.map fun t => frT (tx t))
  refine Eq.trans this ?_
  unfold Fr.row
  congr 1
  rw [List.map_map]
  apply List.map_congr_left
  intro t _
  show sg (frT (tx t)) = _
  unfold frT
  rw [sg_tx, sg_tx]
theorem row_pl {ts : List (List Nat)} (h : ∀ t ∈ ts, ∀ c ∈ t, pc c = true) : Pl (tx (Fr.row ts)) := Pl.tx fun c hc => by
  unfold Fr.row at hc
  obtain ⟨f, hf, hc⟩ := List.mem_flatten.mp hc
  obtain ⟨t, ht, rfl⟩ := List.mem_map.mp hf
  have p : Pl (tx t) := Pl.tx (h t ht)
  have q := frT_pl p
  unfold frT at q
  rw [sg_tx] at q
  exact q c (by rw [sg_tx]; exact hc)
theorem row_len (ts : List (List Nat)) : (tx (Fr.row ts)).length = Fr.total ts := by rw [tx_len, Fr.row_len]
/-- the texts' frames, one behind the other -/
theorem row_lc {K : PySem.W.Frag} {H : Hp} {Q : VK} {l : Addr} {ts : List (List Nat)} {a0 a2 a3 a4 a5 a6 a7 a8 : Option V} (hl : TextsAt H l ts) (hn : ts.length ≤ 1000) (hb : ∀ t ∈ ts, t.length ≤ 9999)
    (k : ∀ D H2, H D = none → Same H H2 → H2 D = some (.lst ((ts.map fun t => frT (tx t)).map V.str)) → Q (.ref D) H2) :
    tLc (iList K (tVar 1)) (gName 5) tYes (tCG spFrame (fun _ _ _ _ => False) (tCons (tVar 5) tNil)) [5] [a0, some (.ref l), a2, a3, a4, a5, a6, a7, a8] H Q := by
  have sz : sizeLine = 16777216 := sizeLine_eq
  refine ⟨_, rfl, l, rfl, ⟨_, SqL.of hl⟩, fun D hD => ?_⟩
  refine lc_list (K := K) (a := l) (xs := ts.map fun t => V.str (tx t)) (fun i H' => H' D = some (.lst (((ts.take i).map fun t => frT (tx t)).map V.str)) ∧ Same H H') ⟨upd_same, Same.new hD⟩ (fun i H' _ h => SqL.of (h.2 _ _ hl)) ?_ ?_
  · rintro i x H' hx ⟨f, S⟩
    rw [List.getElem?_map] at hx
    obtain ⟨t, ht, rfl⟩ := Option.map_eq_some_iff.mp hx
    refine ⟨rfl, ?_⟩
    walk_at "rd"
    refine ⟨_, rfl, by rw [tx_len]; exact hb t (List.mem_of_getElem? ht), ?_⟩
    refine ⟨_, f, ?_, ?_, fun a u ha => by rw [upd_ne (ne_of_none ha hD)]; exact S a u ha⟩
    · rw [List.length_map, List.length_map, List.length_take]
      omega
    · rw [take_snoc ht, List.map_append, List.map_append]
      rfl
  · rintro H' ⟨f, S⟩
    rw [List.length_map, List.take_length] at f
    exact k D H' hD S f
theorem lens_sum (ts : List (List Nat)) : ((ts.map fun t => frT (tx t)).map fun x => x.length).sum = Fr.total ts := by
  rw [List.map_map]
  unfold Fr.total
  congr 1
  apply List.map_congr_left
  intro t _
  show (frT (tx t)).length = _
  rw [frT_len, tx_len]
theorem whole_row (ts : List (List Nat)) (c : Nat) : (((Fr.ends ts 0).filter fun e => decide (e ≤ c)).length : Int) - 1 = ((Fr.cnt ts c : Nat) : Int) := by
  have := Fr.ends_cnt ts 0 c
  rw [Nat.zero_add] at this
  rw [this]
  omega
def spCutRight : Sp := fun vs H Q _ => ∃ p N l ts turn, vs = [.ref p, .ref l, .int turn] ∧ BoxAt H p N ∧ N ≤ 800000 ∧ TextsAt H l ts ∧ GoodT ts ∧ ∀ H', BoxAt H' p (N + 4) → Ext1 p H H' → Q (.bl true) H'
section
variable {P : Program} {w : World} {K : PySem.W.Frag} {mg : Str → Option Value} {base : Heap}
theorem ok_l_cut_right (T : Tx K mg) : FnG P w K mg base 5 T.d_l_cut_right.f T.d_l_cut_right.fd ["_law_box_here", "_law_texts_here", "_law_turn"] spCutRight := by
  refine okG0 T.d_l_cut_right.F sc_l_cut_right (fun vs H Q E h => ?_) (fun cdv A outer s H vs Q E hg hr h => ?_)
  · obtain ⟨p, N, l, ts, turn, rfl, _⟩ := h
    rfl
  obtain ⟨p, N, l, ts, turn, rfl, hp, hN, hl, ht, k⟩ := h
  refine ⟨_, (pss_cons (ps_par (i := 3) (j := 4) rfl sc_l_cut_right.nd rfl rfl (by decide) rfl rfl (pa_cons (pe_join pe_str (pe_lc (own := [("_law_text_here", 5)]) (g := gName 5) (tt := tYes) rfl sc_l_cut_right.nd (pi_list (pv 1)) (blkOk_by (N := ["_law_box_here", "_law_texts_here", "_law_turn", "_law_row", "_law_ends_here", "_law_text_here", "_law_cut", "_law_whole", "_law_end"]) (sc := defScope s_l_cut_right) (by decide +kernel)) (fun _ _ _ _ _ => pg_name (i := 5) sc_l_cut_right.nd rfl (Or.inl rfl)) (fun _ _ _ _ _ => pts_nil) (fun _ _ _ _ _ => (pe_cG (ok_l_frame T) T.d_l_frame.b takes0 hg (hr.mono (by decide)) T.d_l_frame.m T.d_l_frame.F.kp (pa_cons (pv 5) pa_nil))))) (pa_cons (pe_cG (ok_l_ends T) T.d_l_ends.b takes0 hg (hr.mono (by decide)) T.d_l_ends.m T.d_l_ends.F.kp (pa_cons (pv 1) pa_nil)) pa_nil)) (by rfl))
    (pss_cons (ps_for PassesOwn.never rfl (pi_list (pe_cG (ok_l_cuts T) T.d_l_cuts.b takes0 hg (hr.mono (by decide)) T.d_l_cuts.m T.d_l_cuts.F.kp (pa_cons (pv 0) (pa_cons (pv 4) pa_nil)))) (pg_name (i := 6) sc_l_cut_right.nd rfl (Or.inr rfl))
      (pss_cons (ps_set (i := 7) sc_l_cut_right.nd rfl (Or.inl rfl) (pe_op op_sub (pe_callB call_len_seq (by rfl) T.n_len (by decide +kernel) (pa_cons (pe_lc (own := [("_law_end", 8)]) (g := gName 8) rfl sc_l_cut_right.nd (pi_list (pv 4)) (blkOk_by (N := ["_law_box_here", "_law_texts_here", "_law_turn", "_law_row", "_law_ends_here", "_law_text_here", "_law_cut", "_law_whole", "_law_end"]) (sc := defScope s_l_cut_right) (by decide +kernel)) (fun _ _ _ _ _ => pg_name (i := 8) sc_l_cut_right.nd rfl (Or.inl rfl)) (fun _ _ _ _ _ => (pts_one (pt_cmpR op_le (pv 8) (pv 6) (nomark _)))) (fun _ _ _ _ _ => (pv 8))) pa_nil)) pe_int))
      (pss_one (ps_if (pt_not (pt_val (pe_cG (ok_l_told T) T.d_l_told.b takes0 hg (hr.mono (by decide)) T.d_l_told.m T.d_l_told.F.kp (pa_cons (pe_slice sl_str (pv 3) po_none (po_some (pv 6))) (pa_cons (pe_tup (pa_cons (pe_slice sl_list (pv 1) po_none (po_some (pv 7))) (pa_cons (pe_ix ix_list (pv 4) (pv 7) (fun _ _ => rfl)) pa_nil))) (pa_cons (pv 2) pa_nil))))))
        (pss_one (ps_ret pe_bl))
        pss_nil))))
    (pss_cons (ps_for PassesOwn.never rfl (pi_list (pv 1)) (pg_name (i := 5) sc_l_cut_right.nd rfl (Or.inl rfl))
      (pss_cons (ps_if (pt_not (pt_val (pe_cG (ok_l_equal T) T.d_l_equal.b takes0 hg (hr.mono (by decide)) T.d_l_equal.m T.d_l_equal.F.kp (pa_cons (pe_ifExp (pt_cmpR op_eq (pv 2) pe_int (nomark _)) (pe_cG (ok_framed T) T.d_framed.b takes0 hg (hr.mono (by decide)) T.d_framed.m T.d_framed.F.kp (pa_cons (pv 5) pa_nil)) (pe_cGk (ok_framed T) T.d_framed.kb rfl takes0 hg (hr.mono (by decide)) T.d_framed.m T.d_framed.F.kp (pk_cons (pv 5) pk_nil))) (pa_cons (pe_cG (ok_l_frame T) T.d_l_frame.b takes0 hg (hr.mono (by decide)) T.d_l_frame.m T.d_l_frame.F.kp (pa_cons (pv 5) pa_nil)) pa_nil)))))
        (pss_one (ps_ret pe_bl))
        pss_nil)
      (pss_one (ps_if (pt_not (pt_val (pe_cG (ok_l_equal T) T.d_l_equal.b takes0 hg (hr.mono (by decide)) T.d_l_equal.m T.d_l_equal.F.kp (pa_cons (pe_cG (ok_frames_in T) T.d_frames_in.b takes0 hg (hr.mono (by decide)) T.d_frames_in.m T.d_frames_in.F.kp (pa_cons (pe_cG (ok_framed T) T.d_framed.b takes0 hg (hr.mono (by decide)) T.d_framed.m T.d_framed.F.kp (pa_cons (pv 5) pa_nil)) pa_nil)) (pa_cons (pe_tup (pa_cons (pe_lst1 (pa_cons (pv 5) pa_nil)) (pa_cons (pe_op op_add (pe_callB call_len_str (by rfl) T.n_len (by decide +kernel) (pa_cons (pv 5) pa_nil)) pe_int) pa_nil))) pa_nil)))))
        (pss_one (ps_ret pe_bl))
        pss_nil))))
    (pss_one (ps_ret (pe_cG (ok_l_told T) T.d_l_told.b takes0 hg (hr.mono (by decide)) T.d_l_told.m T.d_l_told.F.kp (pa_cons (pv 3) (pa_cons (pe_tup (pa_cons (pv 1) (pa_cons (pe_callB call_len_str (by rfl) T.n_len (by decide +kernel) (pa_cons (pv 3) pa_nil)) pa_nil))) (pa_cons (pe_op op_sub pe_int (pv 2)) pa_nil))))))))), ?_⟩
  walk_at "rd"
  have sz : sizeLine = 16777216 := sizeLine_eq
  have el : (Str.ofString "").length = 0 := by decide +kernel
  have hn := ht.n
  have htt := ht.t
  have hbl : ∀ t ∈ ts, t.length ≤ 9999 := fun t h => (ht.p t h).1
  have hb4 : ∀ t ∈ ts, t.length < 10000 := fun t h => by have := hbl t h; omega
  refine ⟨⟨_, rfl⟩, row_lc hl (by omega) hbl fun D1 H1 n1 S1 f1 => ?_⟩
  refine ⟨D1, rfl, _, .inl (SqL.of f1), by rw [el, lens_sum]; omega, ?_⟩
  rw [rowOf]
  have hl1 : TextsAt H1 l ts := S1 _ _ hl
  refine ⟨l, ts, rfl, hl1, by omega, hbl, fun e H2 n2 S2 he => ?_⟩
  have hl2 : TextsAt H2 l ts := S2 _ _ hl1
  have hp2 : BoxAt H2 p N := BoxAt.mono S2 (BoxAt.mono S1 hp)
  refine ⟨_, rfl, _, rfl, p, N, e, ts, rfl, hp2, by omega, he, hn, htt, fun c cs H3 n3 hc hcs lcs hp3 e3 => ?_⟩
  have box_l : l ≠ p := fun z => by
    obtain ⟨n, b, m, cc, hx, _⟩ := hp2
    rw [z] at hl2
    rw [hl2] at hx
    have h2 := HO.lst.inj (Option.some.inj hx)
    have : V.bl b ∈ ts.map fun t => V.str (tx t) := by rw [h2]; simp
    obtain ⟨t, _, ht⟩ := List.mem_map.mp this
    cases ht
  have box_e : e ≠ p := box_ne hp2 he fun x hx => by
    obtain ⟨i, _, rfl⟩ := List.mem_map.mp hx
    exact ⟨_, rfl⟩
  have hl3 : TextsAt H3 l ts := e3 _ _ box_l hl2
  have he3 : EndsAt H3 e ts := e3 _ _ box_e he
  have E3 : Ext1 p H H3 := (Nv.Same.ext1 (Same.trans S1 S2)).trans e3
  refine ⟨c, rfl, ⟨_, SqL.of hc⟩, ?_⟩
  have rpl := row_pl fun t h => (ht.p t h).2
  have rlen := row_len ts
  refine for_list (K := K) (a := c) (xs := cs.map V.int) (fun i σ H' => (∃ y5 y6 y7 y8, σ = [some (.ref p), some (.ref l), some (.int turn), some (.str (tx (Fr.row ts))), some (.ref e), y5, y6, y7, y8]) ∧ Same H3 H')
    ⟨⟨_, _, _, _, rfl⟩, Same.refl _⟩ (fun i σ H' _ h => SqL.of (h.2 _ _ hc)) ?_ ?_
  · rintro i x σ H4 hx ⟨⟨y5, y6, y7, y8, rfl⟩, S4⟩
    rw [List.getElem?_map] at hx
    obtain ⟨cut, hcut, rfl⟩ := Option.map_eq_some_iff.mp hx
    obtain ⟨c0, c1⟩ := hcs cut (List.mem_of_getElem? hcut)
    obtain ⟨j, rfl⟩ : ∃ j : Nat, cut = (j : Int) := ⟨cut.toNat, by omega⟩
    walk_at "rd"
    have he4 : EndsAt H4 e ts := S4 _ _ he3
    have hl4 : TextsAt H4 l ts := S4 _ _ hl3
    refine ⟨_, rfl, e, rfl, ⟨_, SqL.of he4⟩, fun D hD => ?_⟩
    refine lc_list (K := K) (a := e) (xs := (Fr.ends ts 0).map eV) (fun i H' => H' D = some (.lst ((((Fr.ends ts 0).take i).filter fun e => decide (e ≤ j)).map eV)) ∧ Same H4 H') ⟨upd_same, Same.new hD⟩ (fun i H' _ h => SqL.of (h.2 _ _ he4)) ?_ ?_
    · rintro i x H' hx ⟨f, S⟩
      rw [List.getElem?_map] at hx
      obtain ⟨n, hn2, rfl⟩ := Option.map_eq_some_iff.mp hx
      rw [show eV n = V.int (n : Int) from rfl]
      refine ⟨rfl, ?_⟩
      walk_at "rd"
      rw [take_filter hn2]
      by_cases hnj : n ≤ j
      · have h1 : (n : Int) ≤ (j : Int) := by omega
        simp only [h1, hnj, decide_true, ↓reduceIte]
        refine ⟨_, f, ?_, ?_, fun a u ha => by rw [upd_ne (ne_of_none ha hD)]; exact S a u ha⟩
        · have h1 := List.length_filter_le (fun e => decide (e ≤ j)) ((Fr.ends ts 0).take i)
          have h2 := Fr.ends_len ts 0
          have h3 : ((Fr.ends ts 0).take i).length ≤ (Fr.ends ts 0).length := by
            rw [List.length_take]
            omega
          rw [List.length_map]
          omega
        · rw [List.map_append]
          rfl
      · have h1 : ¬ (n : Int) ≤ (j : Int) := by omega
        simp only [h1, hnj, decide_false, Bool.false_eq_true, ↓reduceIte, List.append_nil]
        exact ⟨f, S⟩
    rintro H5 ⟨f5, S5⟩
    rw [List.length_map, List.take_length] at f5
    have hw := whole_row ts j
    obtain ⟨kk, hkk⟩ : ∃ kk, kk = Fr.cnt ts j := ⟨_, rfl⟩
    have hk6 := Fr.cnt_le ts j
    rw [← hkk] at hw hk6
    refine ⟨D, rfl, _, .inl (SqL.of f5), by omega, ?_⟩
    rw [List.length_map, hw]
    have he5 : EndsAt H5 e ts := S5 _ _ he4
    have hl5 : TextsAt H5 l ts := S5 _ _ hl4
    refine ⟨l, _, rfl, SqL.of hl5, fun q hq => ?_⟩
    rw [cutV_to, ← List.map_take]
    obtain ⟨H6, e6, S6, f6⟩ := gen_new (.lst ((ts.take kk).map fun t => V.str (tx t))) hq
    simp only [e6]
    have he6 : EndsAt H6 e ts := S6 _ _ he5
    have hat := Fr.ends_at ts 0 kk hk6
    refine r_ixL (v := eV (0 + Fr.total (ts.take kk))) (SqL.of he6) (atI_nat (j := kk) (by rw [List.getElem?_map, hat]; rfl)) ?_
    refine ⟨by decide, fun t7 n7 => ?_⟩
    obtain ⟨H7, e7, S7, f7⟩ := gen_new (.tup [V.ref q, eV (0 + Fr.total (ts.take kk))]) n7
    simp only [e7]
    have hpr := Fr.parse_row (c := j) hb4
    rw [← hkk] at hpr
    have sgz : sg (cutS (tx (Fr.row ts)) none (some (j : Int))) = (Fr.row ts).take j := by rw [cut_to, sg_tx]
    refine ⟨_, t7, q, turn, rfl, rpl.cut _ _, ?_, ?_, ?_, fun H8 S8 => ⟨_, rfl, ?_⟩⟩
    · rw [← sg_len, sgz, List.length_take, Fr.row_len]
      omega
    · rw [sgz, hpr, f7, Nat.zero_add]
      rfl
    · rw [sgz, hpr]
      exact S7 _ _ f6
    · simp only [Bool.true_eq_false, ↓reduceIte]
      exact ⟨⟨_, rfl⟩, Same.trans S4 (Same.trans S5 (Same.trans S6 (Same.trans S7 S8)))⟩
  · rintro σ H4 ⟨⟨y5, y6, y7, y8, rfl⟩, S4⟩
    walk_at "rd"
    have hl4 : TextsAt H4 l ts := S4 _ _ hl3
    refine ⟨_, rfl, l, rfl, ⟨_, SqL.of hl4⟩, ?_⟩
    refine for_list (K := K) (a := l) (xs := ts.map fun t => V.str (tx t)) (fun i σ H' => (∃ y5 y6 y7 y8, σ = [some (.ref p), some (.ref l), some (.int turn), some (.str (tx (Fr.row ts))), some (.ref e), y5, y6, y7, y8]) ∧ Same H4 H')
      ⟨⟨_, _, _, _, rfl⟩, Same.refl _⟩ (fun i σ H' _ h => SqL.of (h.2 _ _ hl4)) ?_ ?_
    · rintro i x σ H5 hx ⟨⟨y5, y6, y7, y8, rfl⟩, S5⟩
      rw [List.getElem?_map] at hx
      obtain ⟨t, ht5, rfl⟩ := Option.map_eq_some_iff.mp hx
      have htm := List.mem_of_getElem? ht5
      obtain ⟨lt, pt⟩ := ht.p t htm
      have plt : Pl (tx t) := Pl.tx pt
      walk_at "rd"
      refine ⟨rfl, ?_⟩
      rw [ite_self]
      have fr : ∀ (H : Hp) (Q : VK) (E : XK), Q (.str (frT (tx t))) H → spFramed T.C_InvalidText [.str (tx t)] H Q E := fun H Q E q =>
        ⟨_, _, rfl, .str _, fun z e => by cases e; rw [tx_len]; omega, fun z e _ _ => by cases e; exact q, fun h => by
          have := h _ rfl plt.ok
          rw [tx_len] at this
          omega⟩
      refine fr _ _ _ ⟨_, rfl, by rw [tx_len]; omega, ?_⟩
      have pf := frT_pl plt
      have lf : (frT (tx t)).length ≤ 10004 := by rw [frT_len, tx_len]; omega
      refine ⟨_, _, _, _, 0, rfl, .str _, .str _, .inl ⟨_, rfl⟩, .inl ⟨_, rfl⟩, Ft.str pf.asc, by omega, by decide, _, rfl, ?_⟩
      simp only [Bool.true_eq_false, ↓reduceIte]
      refine fr _ _ _ ⟨_, _, rfl, .str _, fun y ey _ => ?_, fun h => by have := h _ rfl; rw [pf.ok] at this; cases this⟩
      cases ey
      refine ⟨by omega, fun t6 l6 H6 m1 m2 _ m3 S6 x6 f6 => ?_⟩
      refine ⟨by decide, fun q hq nq => ?_⟩
      obtain ⟨H7, e7, S7, f7⟩ := gen_new (.lst [V.str (tx t)]) hq
      simp only [e7]
      rw [tx_len]
      refine ⟨by omega, by decide, fun t8 n8 => ?_⟩
      obtain ⟨H8, e8, S8, f8⟩ := gen_new (.tup [V.ref q, V.int ((t.length : Int) + 5)]) n8
      simp only [e8]
      have hpa : Fr.parse (sg (frT (tx t))) = ([t], t.length + 5) := by
        have := Fr.parse_all (ts := [t]) (fun u hu => by
          have : u = t := by simpa using hu
          rw [this]
          omega)
        have e1 : Fr.row [t] = sg (frT (tx t)) := by
          unfold frT
          rw [sg_tx, sg_tx]
          simp [Fr.row]
        rw [e1] at this
        rw [this]
        simp [Fr.total]
      have ft := pair_ft pf (by omega)
      rw [hpa] at x6 f6 ft
      have d1 : Dp K H8 (.ref t6) (pairD [t] (t.length + 5)) := pair_dp (S8 _ _ (S7 _ _ f6)) (S8 _ _ (S7 _ _ x6))
      have d2 : Dp K H8 (.ref t8) (pairD [t] (t.length + 5)) := pair_dp (by rw [f8]; rfl) (S8 _ _ f7)
      refine ⟨_, _, _, _, _, rfl, d1, d2, .inr ⟨_, rfl⟩, .inr ⟨_, rfl⟩, ft, by decide, by decide, _, rfl, ?_⟩
      simp only [Bool.true_eq_false, ↓reduceIte]
      exact ⟨⟨_, rfl⟩, Same.trans S5 (Same.trans S6 (Same.trans S7 S8))⟩
    · rintro σ H5 ⟨⟨y5, y6, y7, y8, rfl⟩, S5⟩
      walk_at "rd"
      rw [rlen]
      refine ⟨by omega, by decide, fun t6 n6 => ?_⟩
      obtain ⟨H6, e6, S6, f6⟩ := gen_new (.tup [V.ref l, V.int (Fr.total ts : Int)]) n6
      simp only [e6]
      have hpa := Fr.parse_all hb4
      have hl6 : TextsAt H6 l ts := S6 _ _ (S5 _ _ hl4)
      refine ⟨_, t6, l, _, rfl, rpl, by omega, ?_, ?_, fun H7 S7 => ?_⟩
      · rw [sg_tx, hpa]
        exact f6
      · rw [sg_tx, hpa]
        exact hl6
      · have S37 : Same H3 H7 := Same.trans S4 (Same.trans S5 (Same.trans S6 S7))
        exact k H7 (BoxAt.mono S37 hp3) (E3.trans (Nv.Same.ext1 S37))
end
end K05


namespace K05
open PySem L2 Nv

def spSpoilt : Sp := fun vs H Q _ => ∃ p N row e ts first, vs = [.ref p, .str row, .ref e, .bl first] ∧ BoxAt H p N ∧ N ≤ 900000 ∧ Pl row ∧ row.length ≤ 20000 ∧ EndsAt H e ts ∧ ts.length ≤ 6 ∧ Fr.total ts ≤ 10500 ∧
  ∀ z H', Pl z → z.length ≤ 90000 → BoxAt H' p (N + 6) → Ext1 p H H' → Q (.str z) H'
section
variable {P : Program} {w : World} {K : PySem.W.Frag} {mg : Str → Option Value} {base : Heap}
theorem ok_l_spoilt (T : Tx K mg) : FnG P w K mg base 2 T.d_l_spoilt.f T.d_l_spoilt.fd ["_law_box_here", "_law_row", "_law_ends_here", "_law_first"] spSpoilt := by
  refine okG0 T.d_l_spoilt.F sc_l_spoilt (fun vs H Q E h => ?_) (fun cdv A outer s H vs Q E hg hr h => ?_)
  · obtain ⟨p, N, row, e, ts, first, rfl, _⟩ := h
    rfl
  obtain ⟨p, N, row, e, ts, first, rfl, hp, hN, pr, lr, he, hn, ht, k⟩ := h
  refine ⟨_, (pss_cons (ps_par3 (i := 4) (j := 5) (l := 6) rfl sc_l_spoilt.nd rfl rfl rfl (by decide) (by decide) (by decide) rfl rfl rfl (pa_cons (pe_cG (ok_l_take T) T.d_l_take.b takes0 hg (hr.mono (by decide)) T.d_l_take.m T.d_l_take.F.kp (pa_cons (pv 0) (pa_cons pe_int pa_nil))) (pa_cons (pe_cG (ok_l_take T) T.d_l_take.b takes0 hg (hr.mono (by decide)) T.d_l_take.m T.d_l_take.F.kp (pa_cons (pv 0) (pa_cons pe_int pa_nil))) (pa_cons (pe_ix ix_str (pe_cG0 (ok_l_alphabet T) T.d_l_alphabet.b takes0 hg (hr.mono (by decide)) T.d_l_alphabet.m T.d_l_alphabet.F.kp) (pe_cG (ok_l_take T) T.d_l_take.b takes0 hg (hr.mono (by decide)) T.d_l_take.m T.d_l_take.F.kp (pa_cons (pv 0) (pa_cons pe_int pa_nil))) (fun _ _ => rfl)) pa_nil))) (by rfl))
    (pss_cons (ps_par3 (i := 7) (j := 8) (l := 9) rfl sc_l_spoilt.nd rfl rfl rfl (by decide) (by decide) (by decide) rfl rfl rfl (pa_cons (pe_cG (ok_l_take T) T.d_l_take.b takes0 hg (hr.mono (by decide)) T.d_l_take.m T.d_l_take.F.kp (pa_cons (pv 0) (pa_cons (pe_callB (call_max2 rfl) (by rfl) T.n_max (by decide +kernel) (pa_cons pe_int (pa_cons (pe_op op_sub (pe_callB call_len_seq (by rfl) T.n_len (by decide +kernel) (pa_cons (pv 2) pa_nil)) pe_int) pa_nil))) pa_nil))) (pa_cons (pe_cG (ok_l_take T) T.d_l_take.b takes0 hg (hr.mono (by decide)) T.d_l_take.m T.d_l_take.F.kp (pa_cons (pv 0) (pa_cons (pe_op op_add (pe_callB call_len_str (by rfl) T.n_len (by decide +kernel) (pa_cons (pv 1) pa_nil)) pe_int) pa_nil))) (pa_cons (pe_cG (ok_l_take T) T.d_l_take.b takes0 hg (hr.mono (by decide)) T.d_l_take.m T.d_l_take.F.kp (pa_cons (pv 0) (pa_cons pe_int pa_nil))) pa_nil))) (by rfl))
    (pss_cons (ps_if (pt_val (pv 3))
      (pss_one (ps_ret (pe_op op_add_str (pe_op op_add_str (pe_slice sl_str (pv 1) po_none (po_some (pe_ix ix_list (pv 2) (pv 7) (fun _ _ => rfl)))) (pe_ix ix_str pe_str (pe_op op_modN (pe_callTy call_intI (by rfl) T.n_int (by decide +kernel) (pa_cons (pv 5) pa_nil)) pe_int) (fun _ _ => rfl))) (pe_slice sl_str (pv 1) (po_some (pe_op op_add (pe_ix ix_list (pv 2) (pv 7) (fun _ _ => rfl)) pe_int)) po_none))))
      pss_nil)
    (C8.pss_cut (ps_if (pt_cmpR op_lt (pv 9) pe_int (nomark _))
      (pss_one (ps_set (i := 8) sc_l_spoilt.nd rfl (Or.inl rfl) (pe_op op_add (pe_ix ix_list (pv 2) (pv 7) (fun _ _ => rfl)) (pv 9))))
      pss_nil)
    (C8.pss_cut (ps_if (pt_cmpR op_eq (pv 9) pe_int (nomark _))
      (pss_one (ps_set (i := 8) sc_l_spoilt.nd rfl (Or.inl rfl) (pe_callB (call_max2 rfl) (by rfl) T.n_max (by decide +kernel) (pa_cons pe_int (pa_cons (pe_op op_sub (pe_ix ix_list (pv 2) (pe_callB (call_min2 rfl) (by rfl) T.n_min (by decide +kernel) (pa_cons (pe_op op_add (pv 7) pe_int) (pa_cons (pe_op op_sub (pe_callB call_len_seq (by rfl) T.n_len (by decide +kernel) (pa_cons (pv 2) pa_nil)) pe_int) pa_nil))) (fun _ _ => rfl)) pe_int) pa_nil)))))
      pss_nil)
    (C8.pss_cut (ps_if (pt_cmpR op_lt (pv 5) pe_int (nomark _))
      (pss_one (ps_set (i := 6) sc_l_spoilt.nd rfl (Or.inl rfl) (pe_ix ix_str pe_str (pv 5) (fun _ _ => rfl))))
      pss_nil)
    (pss_cons (ps_if (pt_cmpR op_eq (pv 4) pe_int (nomark _))
      (pss_one (ps_ret (pe_op op_add_str (pe_op op_add_str (pe_slice sl_str (pv 1) po_none (po_some (pv 8))) (pv 6)) (pe_slice sl_str (pv 1) (po_some (pv 8)) po_none))))
      pss_nil)
    (pss_cons (ps_if (pt_cmpR op_eq (pv 4) pe_int (nomark _))
      (pss_one (ps_ret (pe_op op_add_str (pe_slice sl_str (pv 1) po_none (po_some (pv 8))) (pe_slice sl_str (pv 1) (po_some (pe_op op_add (pv 8) pe_int)) po_none))))
      pss_nil)
    (pss_cons (ps_if (pt_cmpR op_eq (pv 4) pe_int (nomark _))
      (pss_one (ps_ret (pe_op op_add_str (pe_op op_add_str (pe_op op_add_str (pe_slice sl_str (pv 1) po_none (po_some (pv 8))) (pe_slice sl_str (pv 1) (po_some (pe_op op_add (pv 8) pe_int)) (po_some (pe_op op_add (pv 8) pe_int)))) (pe_slice sl_str (pv 1) (po_some (pv 8)) (po_some (pe_op op_add (pv 8) pe_int)))) (pe_slice sl_str (pv 1) (po_some (pe_op op_add (pv 8) pe_int)) po_none))))
      pss_nil)
    (pss_one (ps_ret (pe_op op_add_str (pe_op op_add_str (pe_slice sl_str (pv 1) po_none (po_some (pv 8))) (pv 6)) (pe_slice sl_str (pv 1) (po_some (pe_op op_add (pv 8) pe_int)) po_none))))))))))))), ?_⟩
  walk_at "rd"
  have sz : sizeLine = 16777216 := sizeLine_eq
  refine ⟨p, 5, N, rfl, hp, by omega, by decide, by decide, fun way H1 w0 w1 hp1 e1 => ?_⟩
  refine ⟨p, 12, _, rfl, hp1, by omega, by decide, by decide, fun kind H2 k0 k1 hp2 e2 => ?_⟩
  refine ⟨rfl, ?_⟩
  refine ⟨p, 94, _, rfl, hp2, by omega, by decide, by decide, fun d H3 d0 d1 hp3 e3 => ?_⟩
  obtain ⟨c, hc, hat⟩ := alpha_at d0 d1
  refine ⟨_, _, c, rfl, rfl, by rw [alpha_len]; omega, hat, ?_⟩
  have al := alpha_len
  have hlen := Fr.ends_len ts 0
  have nep : e ≠ p := box_ne hp he fun x hx => by
    obtain ⟨i, _, rfl⟩ := List.mem_map.mp hx
    exact ⟨_, rfl⟩
  have he3 : EndsAt H3 e ts := e3 _ _ nep (e2 _ _ nep (e1 _ _ nep he))
  have mlen : ((Fr.ends ts 0).map eV).length = ts.length + 1 := by rw [List.length_map, hlen]
  have M1 : (0 : Int) < (if ((((Fr.ends ts 0).map eV).length : Nat) : Int) - 1 > 1 then ((((Fr.ends ts 0).map eV).length : Nat) : Int) - 1 else 1) ∧
      (if ((((Fr.ends ts 0).map eV).length : Nat) : Int) - 1 > 1 then ((((Fr.ends ts 0).map eV).length : Nat) : Int) - 1 else 1) ≤ (ts.length : Int) + 1 ∧
      (if ((((Fr.ends ts 0).map eV).length : Nat) : Int) - 1 > 1 then ((((Fr.ends ts 0).map eV).length : Nat) : Int) - 1 else 1) < 1000 := by
    rw [mlen]
    split <;> omega
  refine ⟨_, .inl (SqL.of he3), _, _, ⟨rfl, rfl⟩, p, _, _, rfl, hp3, by omega, M1.1, by omega, fun one H4 o0 o1 hp4 e4 => ?_⟩
  refine ⟨by omega, p, _, _, rfl, hp4, by omega, by omega, by omega, fun at_ H5 a0 a1 hp5 e5 => ?_⟩
  refine ⟨p, 10, _, rfl, hp5, by omega, by decide, by decide, fun spot H6 s0 s1 hp6 e6 => ?_⟩
  have he6 : EndsAt H6 e ts := e6 _ _ nep (e5 _ _ nep (e4 _ _ nep he3))
  have E6 : Ext1 p H H6 := ((e1.trans e2).trans e3).trans ((e4.trans e5).trans e6)
  have bx : BoxAt H6 p (N + 6) := hp6.le (by omega)
  clear e1 e2 e3 e4 e5 e6 hp1 hp2 hp3 hp4 hp5 he3
  obtain ⟨on, rfl⟩ : ∃ j : Nat, one = (j : Int) := ⟨one.toNat, by omega⟩
  have hon : on < (Fr.ends ts 0).length := by omega
  have at1' : atI ((Fr.ends ts 0).map eV) (on : Int) = some (V.int ((Fr.ends ts 0)[on] : Int)) := atI_nat (by rw [List.getElem?_map, List.getElem?_eq_getElem hon]; rfl)
  have ble := Fr.ends_ge ts 0 _ (List.getElem_mem hon)
  have cl : ∀ lo hi, (cutS row lo hi).length ≤ row.length := fun lo hi => cutS_length _ _ _
  have one_ : ∀ c : Nat, (⟨#[c]⟩ : Str).length = 1 := fun _ => rfl
  have fin : ∀ z : Str, Pl z → z.length ≤ 90000 → Q (.str z) H6 := fun z p1 p2 => k z H6 p1 p2 bx E6
  cases first with
  | true =>
    simp only [↓reduceIte]
    refine r_ixL (SqL.of he6) at1' ?_
    refine ⟨_, rfl, by omega, _, rfl, by decide, ?_⟩
    have f := fmod_in kind (m := 4) (by decide)
    obtain ⟨c2, hc2, hat2⟩ : ∃ c2, pc c2 = true ∧ atI (Str.ofString "+ -_").cps.toList (kind.fmod 4) = some c2 := by
      have hh : kind.fmod 4 = ((0 : Nat) : Int) ∨ kind.fmod 4 = ((1 : Nat) : Int) ∨ kind.fmod 4 = ((2 : Nat) : Int) ∨ kind.fmod 4 = ((3 : Nat) : Int) := by omega
      have e : (Str.ofString "+ -_").cps.toList = [43, 32, 45, 95] := by decide +kernel
      rw [e]
      rcases hh with h | h | h | h <;> rw [h]
      · exact ⟨43, rfl, atI_nat rfl⟩
      · exact ⟨32, rfl, atI_nat rfl⟩
      · exact ⟨45, rfl, atI_nat rfl⟩
      · exact ⟨95, rfl, atI_nat rfl⟩
    refine ⟨_, _, c2, rfl, rfl, by rw [show (Str.ofString "+ -_").length = 4 from by decide +kernel]; omega, hat2, ?_⟩
    refine ⟨_, rfl, by have := cl none (some ((Fr.ends ts 0)[on] : Int)); rw [one_]; omega, ?_⟩
    refine r_ixL (SqL.of he6) at1' ?_
    refine ⟨_, _, rfl, rfl, _, rfl, by omega, ?_, ?_⟩
    · rw [append_len, one_]
      have h1 := cl none (some ((Fr.ends ts 0)[on] : Int))
      have h2 := cl (some ((((Fr.ends ts 0)[on] : Nat) : Int) + 1)) none
      omega
    · refine fin _ (((pr.cut _ _).app (Pl.one hc2)).app (pr.cut _ _)) ?_
      rw [append_len, append_len, one_]
      have h1 := cl none (some ((Fr.ends ts 0)[on] : Int))
      have h2 := cl (some ((((Fr.ends ts 0)[on] : Nat) : Int) + 1)) none
      omega
  | false =>
    simp only [Bool.false_eq_true, ↓reduceIte]
    let Mid : L2.St → Hp → Prop := fun σ' H' => ∃ (a' : Int) (c' : Nat), pc c' = true ∧ H6 = H' ∧ σ' = [some (.ref p), some (.str row), some (.ref e), some (.bl false), some (.int way), some (.int kind), some (.str ⟨#[c']⟩), some (.int (on : Int)), some (.int a'), some (.int spot)]
    refine ⟨Mid, ?_, ?_⟩
    · walk_at "rd"
      by_cases h : spot < 4
      · simp only [h, decide_true, ↓reduceIte]
        refine r_ixL (SqL.of he6) at1' ?_
        walk_at "rd"
        exact ⟨_, c, hc, rfl, rfl⟩
      · simp only [h, decide_false, Bool.false_eq_true, ↓reduceIte]
        exact ⟨_, c, hc, rfl, rfl⟩
    rintro _ _ ⟨x1, c1, hc1, rfl, rfl⟩
    refine ⟨Mid, ?_, ?_⟩
    · walk_at "rd"
      refine ⟨rfl, ?_⟩
      by_cases h : spot = 4
      · simp only [h, decide_true, ↓reduceIte]
        refine ⟨_, .inl (SqL.of he6), _, _, ⟨rfl, rfl⟩, ?_⟩
        rw [mlen]
        obtain ⟨ix, hix, eix⟩ : ∃ ix : Nat, ix < (Fr.ends ts 0).length ∧ (if ((ts.length + 1 : Nat) : Int) - 1 < (on : Int) + 1 then ((ts.length + 1 : Nat) : Int) - 1 else (on : Int) + 1) = (ix : Int) := by
          by_cases hh : ((ts.length + 1 : Nat) : Int) - 1 < (on : Int) + 1
          · rw [if_pos hh]
            exact ⟨ts.length, by omega, by omega⟩
          · rw [if_neg hh]
            exact ⟨on + 1, by omega, by omega⟩
        rw [eix]
        have atx : atI ((Fr.ends ts 0).map eV) (ix : Int) = some (V.int ((Fr.ends ts 0)[ix] : Int)) := atI_nat (by rw [List.getElem?_map, List.getElem?_eq_getElem hix]; rfl)
        refine r_ixL (SqL.of he6) atx ?_
        refine ⟨_, _, rfl, rfl, _, _, ⟨rfl, rfl⟩, ?_⟩
        exact ⟨_, c1, hc1, rfl, by rw [h]⟩
      · simp only [h, decide_false, Bool.false_eq_true, ↓reduceIte]
        exact ⟨_, c1, hc1, rfl, rfl⟩
    rintro _ _ ⟨x2, c2, hc2, rfl, rfl⟩
    refine ⟨Mid, ?_, ?_⟩
    · walk_at "rd"
      by_cases h : kind < 9
      · simp only [h, decide_true, ↓reduceIte]
        obtain ⟨kn, rfl⟩ : ∃ j : Nat, kind = (j : Int) := ⟨kind.toNat, by omega⟩
        have e : (Str.ofString "+- _.0123").cps.toList = [43, 45, 32, 95, 46, 48, 49, 50, 51] := by decide +kernel
        have hkn : kn < (Str.ofString "+- _.0123").cps.toList.length := by rw [e]; show kn < 9; omega
        have pall : ∀ c ∈ (Str.ofString "+- _.0123").cps.toList, pc c = true := by rw [e]; decide
        refine ⟨_, _, (Str.ofString "+- _.0123").cps.toList[kn], rfl, rfl, by rw [show (Str.ofString "+- _.0123").length = 9 from by decide +kernel]; omega, atI_nat (by rw [List.getElem?_eq_getElem hkn]), ?_⟩
        exact ⟨_, _, pall _ (List.getElem_mem hkn), rfl, rfl⟩
      · simp only [h, decide_false, Bool.false_eq_true, ↓reduceIte]
        exact ⟨_, c2, hc2, rfl, rfl⟩
    rintro _ _ ⟨x3, c3, hc3, rfl, rfl⟩
    walk_at "rd"
    have b1 := cl none (some x3)
    have b2 := cl (some x3) none
    have b3 := cl (some (x3 + 1)) none
    have b4 := cl (some (x3 + 1)) (some (x3 + 2))
    have b5 := cl (some x3) (some (x3 + 1))
    have b6 := cl (some (x3 + 2)) none
    have oc := one_ c3
    refine ⟨rfl, ?_⟩
    by_cases h0 : way = 0
    · simp only [h0, ↓reduceIte]
      refine ⟨by omega, by omega, by omega, by rw [append_len]; omega, ?_⟩
      exact fin _ (((pr.cut _ _).app (Pl.one hc3)).app (pr.cut _ _)) (by rw [append_len, append_len]; omega)
    simp only [h0, ↓reduceIte]
    refine ⟨rfl, ?_⟩
    by_cases h1 : way = 1
    · simp only [h1, ↓reduceIte]
      refine ⟨by omega, by omega, by omega, ?_⟩
      exact fin _ ((pr.cut _ _).app (pr.cut _ _)) (by rw [append_len]; omega)
    simp only [h1, ↓reduceIte]
    refine ⟨rfl, ?_⟩
    by_cases h2 : way = 2
    · simp only [h2, ↓reduceIte]
      refine ⟨by omega, by omega, by omega, by omega, by rw [append_len]; omega, by omega, by rw [append_len, append_len]; omega, ?_⟩
      exact fin _ ((((pr.cut _ _).app (pr.cut _ _)).app (pr.cut _ _)).app (pr.cut _ _)) (by rw [append_len, append_len, append_len]; omega)
    simp only [h2, ↓reduceIte]
    refine ⟨by omega, by omega, by omega, by rw [append_len]; omega, ?_⟩
    exact fin _ (((pr.cut _ _).app (Pl.one hc3)).app (pr.cut _ _)) (by rw [append_len, append_len]; omega)
end
end K05


namespace K05
open PySem L2 Nv

theorem texts_ne {H : Hp} {p q : Addr} {N : Nat} {ts : List (List Nat)} (hb : BoxAt H p N) (h : TextsAt H q ts) : q ≠ p := fun e => by
  obtain ⟨n, b, m, c, hp, _⟩ := hb
  rw [e] at h
  rw [h] at hp
  have h2 := HO.lst.inj (Option.some.inj hp)
  have : V.bl b ∈ ts.map fun t => V.str (tx t) := by rw [h2]; simp
  obtain ⟨t, _, ht⟩ := List.mem_map.mp this
  cases ht
theorem ends_ne {H : Hp} {p q : Addr} {N : Nat} {ts : List (List Nat)} (hb : BoxAt H p N) (h : EndsAt H q ts) : q ≠ p := box_ne hb h fun x hx => by
  obtain ⟨i, _, rfl⟩ := List.mem_map.mp hx
  exact ⟨_, rfl⟩
theorem if_int {c : Prop} [Decidable c] {Kc : V → Hp → Prop} {H : Hp} {σ : L2.St} {a b : Int} (h : ∀ M, (M = a ∨ M = b) → Kc (.int M) H) : if c then tC (.int a) σ H Kc else tC (.int b) σ H Kc := by
  split
  · exact h a (.inl rfl)
  · exact h b (.inr rfl)
def spSpoiltRight : Sp := fun vs H Q _ => ∃ p N l ts turn, vs = [.ref p, .ref l, .int turn] ∧ BoxAt H p N ∧ N ≤ 800000 ∧ TextsAt H l ts ∧ GoodT ts ∧ ∀ H', BoxAt H' p (N + 100) → Ext1 p H H' → Q (.bl true) H'
section
variable {P : Program} {w : World} {K : PySem.W.Frag} {mg : Str → Option Value} {base : Heap}
theorem ok_l_spoilt_right (T : Tx K mg) : FnG P w K mg base 5 T.d_l_spoilt_right.f T.d_l_spoilt_right.fd ["_law_box_here", "_law_texts_here", "_law_turn"] spSpoiltRight := by
  refine okG0 T.d_l_spoilt_right.F sc_l_spoilt_right (fun vs H Q E h => ?_) (fun cdv A outer s H vs Q E hg hr h => ?_)
  · obtain ⟨p, N, l, ts, turn, rfl, _⟩ := h
    rfl
  obtain ⟨p, N, l, ts, turn, rfl, hp, hN, hl, ht, k⟩ := h
  refine ⟨_, (pss_cons (ps_par (i := 3) (j := 4) rfl sc_l_spoilt_right.nd rfl rfl (by decide) rfl rfl (pa_cons (pe_join pe_str (pe_lc (own := [("_law_text_here", 5)]) (g := gName 5) (tt := tYes) rfl sc_l_spoilt_right.nd (pi_list (pv 1)) (blkOk_by (N := ["_law_box_here", "_law_texts_here", "_law_turn", "_law_row", "_law_ends_here", "_law_text_here", "_law_k", "_law_odd_here", "_law_more"]) (sc := defScope s_l_spoilt_right) (by decide +kernel)) (fun _ _ _ _ _ => pg_name (i := 5) sc_l_spoilt_right.nd rfl (Or.inl rfl)) (fun _ _ _ _ _ => pts_nil) (fun _ _ _ _ _ => (pe_cG (ok_l_frame T) T.d_l_frame.b takes0 hg (hr.mono (by decide)) T.d_l_frame.m T.d_l_frame.F.kp (pa_cons (pv 5) pa_nil))))) (pa_cons (pe_cG (ok_l_ends T) T.d_l_ends.b takes0 hg (hr.mono (by decide)) T.d_l_ends.m T.d_l_ends.F.kp (pa_cons (pv 1) pa_nil)) pa_nil)) (by rfl))
    (pss_cons (ps_for PassesOwn.never rfl (pi_range1 (by rfl) T.n_range (pa_cons (pe_ifExp (pt_cmpR op_lt (pe_callB call_len_str (by rfl) T.n_len (by decide +kernel) (pa_cons (pv 3) pa_nil)) pe_int (nomark _)) pe_int pe_int) pa_nil)) (pg_name (i := 6) sc_l_spoilt_right.nd rfl (Or.inl rfl))
      (pss_cons (ps_set (i := 7) sc_l_spoilt_right.nd rfl (Or.inl rfl) (pe_cG (ok_l_spoilt T) T.d_l_spoilt.b takes0 hg (hr.mono (by decide)) T.d_l_spoilt.m T.d_l_spoilt.F.kp (pa_cons (pv 0) (pa_cons (pv 3) (pa_cons (pv 4) (pa_cons (pe_cmpR op_eq (pv 6) pe_int (nomark _)) pa_nil))))))
      (pss_one (ps_if (pt_not (pt_val (pe_cG (ok_l_told T) T.d_l_told.b takes0 hg (hr.mono (by decide)) T.d_l_told.m T.d_l_told.F.kp (pa_cons (pv 7) (pa_cons (pe_cG (ok_l_read T) T.d_l_read.b takes0 hg (hr.mono (by decide)) T.d_l_read.m T.d_l_read.F.kp (pa_cons (pv 7) pa_nil)) (pa_cons (pe_op op_modN (pe_callTy call_intI (by rfl) T.n_int (by decide +kernel) (pa_cons (pe_op op_add (pv 2) (pv 6)) pa_nil)) pe_int) pa_nil))))))
        (pss_one (ps_ret pe_bl))
        pss_nil))))
    (pss_cons (ps_for PassesOwn.never rfl (pi_range1 (by rfl) T.n_range (pa_cons (pe_ifExp (pt_cmpR op_lt (pe_callB call_len_str (by rfl) T.n_len (by decide +kernel) (pa_cons (pv 3) pa_nil)) pe_int (nomark _)) pe_int pe_int) pa_nil)) (pg_name (i := 6) sc_l_spoilt_right.nd rfl (Or.inl rfl))
      (pss_cons (ps_set (i := 8) sc_l_spoilt_right.nd rfl (Or.inl rfl) (pe_op op_add_str (pv 3) (pe_cG (ok_l_text T) T.d_l_text.b takes0 hg (hr.mono (by decide)) T.d_l_text.m T.d_l_text.F.kp (pa_cons (pv 0) pa_nil))))
      (pss_one (ps_if (pt_not (pt_val (pe_cG (ok_l_told T) T.d_l_told.b takes0 hg (hr.mono (by decide)) T.d_l_told.m T.d_l_told.F.kp (pa_cons (pv 8) (pa_cons (pe_cG (ok_l_read T) T.d_l_read.b takes0 hg (hr.mono (by decide)) T.d_l_read.m T.d_l_read.F.kp (pa_cons (pv 8) pa_nil)) (pa_cons (pe_op op_modN (pe_callTy call_intI (by rfl) T.n_int (by decide +kernel) (pa_cons (pe_op op_add (pv 2) (pv 6)) pa_nil)) pe_int) pa_nil))))))
        (pss_one (ps_ret pe_bl))
        pss_nil))))
    (pss_one (ps_ret pe_bl))))), ?_⟩
  walk_at "rd"
  have sz : sizeLine = 16777216 := sizeLine_eq
  have el : (Str.ofString "").length = 0 := by decide +kernel
  have hn := ht.n
  have htt := ht.t
  have hbl : ∀ t ∈ ts, t.length ≤ 9999 := fun t h => (ht.p t h).1
  refine ⟨⟨_, rfl⟩, row_lc hl (by omega) hbl fun D1 H1 n1 S1 f1 => ?_⟩
  refine ⟨D1, rfl, _, .inl (SqL.of f1), by rw [el, lens_sum]; omega, ?_⟩
  rw [rowOf]
  have hl1 : TextsAt H1 l ts := S1 _ _ hl
  refine ⟨l, ts, rfl, hl1, by omega, hbl, fun e H2 n2 S2 he => ?_⟩
  have hp2 : BoxAt H2 p N := BoxAt.mono S2 (BoxAt.mono S1 hp)
  have nep := ends_ne hp2 he
  have rpl := row_pl fun t h => (ht.p t h).2
  have rlen := row_len ts
  have X2 : Ext1 p H H2 := Nv.Same.ext1 (Same.trans S1 S2)
  have told : ∀ (z : Str) (H3 : Hp) (Q : VK) (E : XK) (t : Int) (t1 l1 : Addr), Pl z → z.length ≤ 100000 → TextsAt H3 l1 (Fr.parse (sg z)).1 → H3 t1 = some (.tup [.ref l1, .int ((Fr.parse (sg z)).2 : Int)]) → (∀ H4, Same H3 H4 → Q (.bl true) H4) → spTold [.str z, .ref t1, .int t] H3 Q E :=
    fun z H3 Q E t t1 l1 pz lz h1 h2 q => ⟨z, t1, l1, t, rfl, pz, lz, h2, h1, q⟩
  obtain ⟨R, hR⟩ : ∃ R, R = tx (Fr.row ts) := ⟨_, rfl⟩
  rw [← hR] at rpl rlen ⊢
  have rread : ∀ (z : Str) (H3 : Hp) (Q : VK) (E : XK), Pl z → z.length ≤ 100000 → (∀ t1 l1 H4, Same H3 H4 → TextsAt H4 l1 (Fr.parse (sg z)).1 → H4 t1 = some (.tup [.ref l1, .int ((Fr.parse (sg z)).2 : Int)]) → Q (.ref t1) H4) → spRead [.str z] H3 Q E :=
    fun z H3 Q E pz lz q => ⟨z, rfl, pz, lz, fun t1 l1 H4 _ _ _ S h1 h2 => q t1 l1 H4 S h1 h2⟩
  refine ⟨_, rfl, R, rfl, by omega, _, _, rfl, rfl, _, rfl, ?_⟩
  refine if_int fun M hM => ?_
  refine ⟨M, rfl, by omega, by omega, ?_⟩
  refine for_range (fun i σ H' => (∃ y5 y6 y7 y8, σ = [some (.ref p), some (.ref l), some (.int turn), some (.str R), some (.ref e), y5, y6, y7, y8]) ∧ BoxAt H' p (N + 6 * i) ∧ Ext1 p H2 H') ⟨⟨_, _, _, _, rfl⟩, hp2, Ext1.refl _ _⟩ ?_ ?_
  · rintro i σ H3 hi ⟨⟨y5, y6, y7, y8, rfl⟩, hp3, e3⟩
    have hi8 : i < 8 := by omega
    walk_at "rd"
    refine ⟨rfl, p, _, R, e, ts, _, rfl, hp3, by omega, rpl, by omega, e3 _ _ nep he, hn, htt, fun z H4 pz lz hp4 e4 => ?_⟩
    refine rread z _ _ _ pz (by omega) fun t1 l1 H5 S5 x5 f5 => ?_
    refine ⟨by decide, ?_⟩
    refine told z _ _ _ _ t1 l1 pz (by omega) x5 f5 fun H6 S6 => ⟨_, rfl, ?_⟩
    simp only [Bool.true_eq_false, ↓reduceIte]
    have S56 := Same.trans S5 S6
    exact ⟨⟨_, rfl⟩, (BoxAt.mono S56 hp4).le (by omega), e3.trans (e4.trans (Nv.Same.ext1 S56))⟩
  · rintro σ H3 ⟨⟨y5, y6, y7, y8, rfl⟩, hp3, e3⟩
    refine ⟨_, rfl, R, rfl, by omega, _, _, rfl, rfl, _, rfl, ?_⟩
    refine if_int fun M2 hM2 => ?_
    refine ⟨M2, rfl, by omega, by omega, ?_⟩
    have hp3' : BoxAt H3 p (N + 48) := hp3.le (by omega)
    refine for_range (fun i σ H' => (∃ y5 y6 y7 y8, σ = [some (.ref p), some (.ref l), some (.int turn), some (.str R), some (.ref e), y5, y6, y7, y8]) ∧ BoxAt H' p (N + 48 + 15 * i) ∧ Ext1 p H2 H') ⟨⟨_, _, _, _, rfl⟩, hp3', e3⟩ ?_ ?_
    · rintro i σ H4 hi ⟨⟨y5, y6, y7, y8, rfl⟩, hp4, e4⟩
      have hi3 : i < 3 := by omega
      walk_at "rd"
      refine ⟨p, _, rfl, hp4, by omega, fun y H5 ly py hp5 e5 => ?_⟩
      have pz : Pl (R ++ y) := rpl.app py
      have lz : (R ++ y).length ≤ 100000 := by
        rw [append_len]
        omega
      refine ⟨_, rfl, by omega, ?_⟩
      refine rread _ _ _ _ pz lz fun t1 l1 H6 S6 x6 f6 => ?_
      refine ⟨by decide, ?_⟩
      refine told _ _ _ _ _ t1 l1 pz lz x6 f6 fun H7 S7 => ⟨_, rfl, ?_⟩
      simp only [Bool.true_eq_false, ↓reduceIte]
      have S67 := Same.trans S6 S7
      exact ⟨⟨_, rfl⟩, (BoxAt.mono S67 hp5).le (by omega), e4.trans (e5.trans (Nv.Same.ext1 S67))⟩
    · rintro σ H4 ⟨⟨y5, y6, y7, y8, rfl⟩, hp4, e4⟩
      walk_at "rd"
      exact k H4 (hp4.le (by omega)) (X2.trans e4)
/-! values that are refused -/
inductive FD : V → PyData → Prop
  | non : FD .non .none
  | bl (b : Bool) : FD (.bl b) (.bool b)
  | int (i : Int) (h : -(10 ^ 21) ≤ i ∧ i ≤ 10 ^ 21) : FD (.int i) (.int i)
  | str (z : Str) (h : z.length ≤ 10100) (a : Asc z) : FD (.str z) (.str z)
inductive V1 (H : Hp) : V → PyData → Prop
  | flat {v : V} {d : PyData} : FD v d → V1 H v d
  | lst {a : Addr} {xs : List V} {ds : List PyData} : H a = some (.lst xs) → a ≠ sysModules → Paired FD xs ds → xs.length ≤ 3 → V1 H (.ref a) (.list ds)
  | tup {a : Addr} {xs : List V} {ds : List PyData} : H a = some (.tup xs) → Paired FD xs ds → xs.length ≤ 3 → V1 H (.ref a) (.tuple ds)
  | dct {a : Addr} {k : Str} {x : V} {d : PyData} : H a = some (.dK [(Sum.inr k, x)]) → k.length ≤ 10 → Asc k → FD x d → V1 H (.ref a) (.dict [(.str k, d)])
theorem V1.mono {H H' : Hp} {v : V} {d : PyData} (e : ∀ a o, v = .ref a → H a = some o → H' a = some o) (h : V1 H v d) : V1 H' v d := by
  cases h with
  | flat f => exact .flat f
  | lst h n p l => exact .lst (e _ _ rfl h) n p l
  | tup h p l => exact .tup (e _ _ rfl h) p l
  | dct h a b f => exact .dct (e _ _ rfl h) a b f
theorem FD.dv {H : Hp} {v : V} {d : PyData} (h : FD v d) : DV H v d := by
  cases h with
  | non => exact .non
  | bl b => exact .bl b
  | int i _ => exact .int i
  | str z _ _ => exact .str z
theorem FD.dvs {H : Hp} : ∀ {xs : List V} {ds : List PyData}, Paired FD xs ds → DVs H xs ds
  | _, _, .nil => .nil
  | _, _, .cons h t => .cons h.dv (FD.dvs t)
theorem V1.dv {H : Hp} {v : V} {d : PyData} (h : V1 H v d) : DV H v d := by
  cases h with
  | flat f => exact f.dv
  | lst h n p l => exact .lst h n (FD.dvs p)
  | tup h p l => exact .tup h (FD.dvs p)
  | dct h a b f => exact .dct h (.cons (k := Sum.inr _) f.dv .nil)
theorem FD.shw {D : Nat} {v : V} {d : PyData} (h : FD v d) : Shw 10100 D d := by
  cases h with
  | non => exact Shw.non
  | bl b => exact Shw.bl b
  | int i h => exact (Shw.int h).le (by decide) (Nat.le_refl _)
  | str z h a => exact (Shw.str a).le h (Nat.le_refl _)
theorem FD.shws {D : Nat} : ∀ {xs : List V} {ds : List PyData}, Paired FD xs ds → Shws (10101 * xs.length) D ds
  | _, _, .nil => Shws.nil
  | _, _, .cons h t => (Shws.cons h.shw (FD.shws t)).le (by simp only [List.length_cons]; omega) (Nat.le_refl _)
theorem V1.shw {H : Hp} {v : V} {d : PyData} (h : V1 H v d) : Shw 40000 2 d := by
  cases h with
  | flat f => exact f.shw.le (by decide) (Nat.le_refl _)
  | lst h n p l => exact (Shw.list (FD.shws (D := 1) p)).le (by omega) (by decide)
  | tup h p l => exact (Shw.tuple (FD.shws (D := 1) p)).le (by omega) (by decide)
  | dct h a b f => exact (Shw.dict1 (Shw.str (D := 1) b) f.shw).le (by omega) (by decide)
theorem V1.isL {H : Hp} {v : V} {d : PyData} (h : V1 H v d) (e : isL d = true) : ∃ x xs ds, v = .ref x ∧ d = .list ds ∧ H x = some (.lst xs) ∧ x ≠ sysModules ∧ Paired FD xs ds ∧ xs.length ≤ 3 := by
  cases h with
  | flat f => cases f <;> cases e
  | lst h n p l => exact ⟨_, _, _, rfl, rfl, h, n, p, l⟩
  | tup h _ _ => cases e
  | dct h _ _ _ => cases e
def spRefused : Sp := fun vs H Q _ => ∃ (door : Nat) (v : V) (turn : Int) (d : PyData), vs = [.int (door : Int), v, .int turn] ∧ door < 2 ∧ DV H v d ∧ (∀ z, d = .str z → z.length ≤ 100000 ∧ (okS z = true → door = 0 ∧ 9999 < z.length)) ∧
  ∀ l H', H l = none → l ≠ sysModules → Same H H' → H' l = some (.lst [.int (door : Int), v]) → Q (.ref l) H'
theorem ok_l_refused (T : Tx K mg) : FnG P w K mg base 4 T.d_l_refused.f T.d_l_refused.fd ["_law_door", "_law_value", "_law_turn"] spRefused := by
  refine okG0 T.d_l_refused.F sc_l_refused (fun vs H Q E h => ?_) (fun cdv A outer s H vs Q E hg hr h => ?_)
  · obtain ⟨door, v, turn, d, rfl, _⟩ := h
    rfl
  obtain ⟨door, v, turn, d, rfl, hdoor, hd, hz, k⟩ := h
  refine ⟨_, (pss_one (ps_try_asN rfl rfl sc_l_refused.nd takes0
      (fun W pn xe tk _ => (pss_cons (ps_if (pt_cmpR op_eq (pv 0) pe_int (nomark _))
          (pss_one (ps_ret (pe_lst1 (pa_cons pe_str (pa_cons (pe_ifExp (pt_cmpR op_eq (pv 2) pe_int (nomark _)) (pe_cG (ok_framed T) T.d_framed.b tk hg (hr.mono (by decide)) T.d_framed.m T.d_framed.F.kp (pa_cons (pv 1) pa_nil)) (pe_cGk (ok_framed T) T.d_framed.kb rfl tk hg (hr.mono (by decide)) T.d_framed.m T.d_framed.F.kp (pk_cons (pv 1) pk_nil))) pa_nil)))))
          pss_nil)
        (pss_one (ps_ret (pe_lst1 (pa_cons pe_str (pa_cons (pe_ifExp (pt_cmpR op_eq (pv 2) pe_int (nomark _)) (pe_cG (ok_frames_in T) T.d_frames_in.b tk hg (hr.mono (by decide)) T.d_frames_in.m T.d_frames_in.F.kp (pa_cons (pv 1) pa_nil)) (pe_cGk (ok_frames_in T) T.d_frames_in.kb rfl tk hg (hr.mono (by decide)) T.d_frames_in.m T.d_frames_in.F.kp (pk_cons (pv 1) pk_nil))) pa_nil)))))))
      (HdsAs.cons (i := 3) rfl rfl ⟨rfl, by decide, .inl T.m_InvalidText⟩ (fun a oe cls d pn hz hf => (pss_one (ps_ret (pe_ifExp (pt_val (pe_callB (call_isX hz hf) (by rfl) T.n_isinstance (by decide +kernel) (pa_cons (pv 3) (pa_cons (pe_glob (v := .ref T.C_UnsaidError) rfl T.m_UnsaidError rfl) pa_nil)))) (pe_lst1 (pa_cons pe_int (pa_cons (pe_xf T.e_InvalidText.xf T.e_InvalidText.noF hz hf (pv 3)) pa_nil))) (pe_lst1 (pa_cons pe_str (pa_cons pe_non pa_nil)))))))
      (HdsAs.cons (i := 3) rfl rfl ⟨rfl, by decide, .inl T.m_InvalidSigns⟩ (fun a oe cls d pn hz hf => (pss_one (ps_ret (pe_ifExp (pt_val (pe_callB (call_isX hz hf) (by rfl) T.n_isinstance (by decide +kernel) (pa_cons (pv 3) (pa_cons (pe_glob (v := .ref T.C_UnsaidError) rfl T.m_UnsaidError rfl) pa_nil)))) (pe_lst1 (pa_cons pe_int (pa_cons (pe_xf T.e_InvalidSigns.xf T.e_InvalidSigns.noF hz hf (pv 3)) pa_nil))) (pe_lst1 (pa_cons pe_str (pa_cons pe_non pa_nil)))))))
      HdsAs.nil)))), ?_⟩
  walk_at "rd"
  have sz : sizeLine = 16777216 := sizeLine_eq
  have fin : ∀ (n : Int) (H1 : Hp), n = (door : Int) → Same H H1 → 0 + 1 + 1 ≤ sizeLine ∧ ∀ l, H1 l = none → l ≠ sysModules → Q (.ref l) (upd H1 l (.lst [.int n, v])) := by
    intro n H1 e S
    subst e
    exact ⟨by decide, fun l hl nl => k l _ (S.free hl) nl (Same.trans S (Same.new hl)) upd_same⟩
  refine ⟨rfl, ?_⟩
  by_cases h0 : (door : Int) = 0
  · rw [if_pos h0]
    refine ⟨rfl, ?_⟩
    rw [ite_self]
    refine ⟨v, d, rfl, hd, fun z e => (hz z e).1, fun z e e1 e2 => ?_, fun _ dd H' hdd S hx => ?_⟩
    · have := ((hz z e).2 e1).2
      omega
    · refine ⟨true, T.x_InvalidText_InvalidText, fun _ a ha => ?_, fun h => (by cases h)⟩
      walk_at "rd"
      refine r_isX T.e_InvalidText.nv T.i_InvalidText_UnsaidError hx ?_
      walk_at "rd"
      refine r_xf hx ?_
      exact fin 0 H' h0.symm S
  · rw [if_neg h0]
    refine ⟨rfl, ?_⟩
    rw [ite_self]
    have no : ∀ z, d = .str z → okS z = false := fun z e => by
      cases q : okS z with
      | false => rfl
      | true =>
        have := ((hz z e).2 q).1
        omega
    refine ⟨v, d, rfl, hd, (fun z e e1 => absurd ((no z e).symm.trans e1) (by decide)), fun _ dd H' hdd S hx => ?_⟩
    refine ⟨false, T.x_InvalidSigns_InvalidText, fun h => (by cases h), fun _ => ⟨true, T.x_InvalidSigns_InvalidSigns, fun _ a ha => ?_, fun h => (by cases h)⟩⟩
    walk_at "rd"
    refine r_isX T.e_InvalidSigns.nv T.i_InvalidSigns_UnsaidError hx ?_
    walk_at "rd"
    refine r_xf hx ?_
    exact fin 1 H' (by omega) S
/-- v stands apart from all that H tracks -/
def Apart (H : Hp) (v : V) : Prop := ∀ a, v = .ref a → H a = none
theorem apart_flat {H : Hp} {v : V} {d : PyData} (h : FD v d) : Apart H v := fun a e => by
  subst e
  cases h
theorem okS_no {z : Str} {c : Nat} (h : c ∈ sg z) (hc : pc c = false) : okS z = false := by
  cases q : okS z with
  | false => rfl
  | true =>
    have := okS_pl q c h
    rw [hc] at this
    cases this
def spOdd : Sp := fun vs H Q _ => ∃ p N z, vs = [.ref p, .str z] ∧ BoxAt H p N ∧ N ≤ 900000 ∧ Pl z ∧ z.length ≤ 5000 ∧ ∀ v d H', V1 H' v d → Apart H v → (∀ y, d = .str y → okS y = false) → BoxAt H' p (N + 2) → Ext1 p H H' → Q v H'
theorem twelve {k : Int} (h0 : 0 ≤ k) (h1 : k < 12) : k = ((0 : Nat) : Int) ∨ k = ((1 : Nat) : Int) ∨ k = ((2 : Nat) : Int) ∨ k = ((3 : Nat) : Int) ∨ k = ((4 : Nat) : Int) ∨ k = ((5 : Nat) : Int) ∨ k = ((6 : Nat) : Int) ∨ k = ((7 : Nat) : Int) ∨
    k = ((8 : Nat) : Int) ∨ k = ((9 : Nat) : Int) ∨ k = ((10 : Nat) : Int) ∨ k = ((11 : Nat) : Int) := by omega
theorem ok_l_odd (T : Tx K mg) : FnG P w K mg base 2 T.d_l_odd.f T.d_l_odd.fd ["_law_box_here", "_law_text_here"] spOdd := by
  refine okG0 T.d_l_odd.F sc_l_odd (fun vs H Q E h => ?_) (fun cdv A outer s H vs Q E hg hr h => ?_)
  · obtain ⟨p, N, z, rfl, _⟩ := h
    rfl
  obtain ⟨p, N, z, rfl, hp, hN, pz, lz, k⟩ := h
  refine ⟨_, (pss_cons (ps_par (i := 2) (j := 3) rfl sc_l_odd.nd rfl rfl (by decide) rfl rfl (pa_cons (pe_cG (ok_l_take T) T.d_l_take.b takes0 hg (hr.mono (by decide)) T.d_l_take.m T.d_l_take.F.kp (pa_cons (pv 0) (pa_cons pe_int pa_nil))) (pa_cons (pe_cG (ok_l_take T) T.d_l_take.b takes0 hg (hr.mono (by decide)) T.d_l_take.m T.d_l_take.F.kp (pa_cons (pv 0) (pa_cons (pe_op op_add (pe_callB call_len_str (by rfl) T.n_len (by decide +kernel) (pa_cons (pv 1) pa_nil)) pe_int) pa_nil))) pa_nil)) (by rfl))
    (pss_cons (ps_set (i := 4) sc_l_odd.nd rfl (Or.inl rfl) (pe_lst1 (pa_cons (pe_op op_add_str (pe_op op_add_str (pe_slice sl_str (pv 1) po_none (po_some (pv 3))) pe_str) (pe_slice sl_str (pv 1) (po_some (pv 3)) po_none)) (pa_cons (pe_op op_add_str (pv 1) pe_str) (pa_cons (pe_op op_add_str pe_str (pv 1)) (pa_cons pe_non (pa_cons pe_int (pa_cons pe_bl (pa_cons (pe_lst1 (pa_cons (pv 1) pa_nil)) (pa_cons (pe_tup (pa_cons (pv 1) (pa_cons pe_str pa_nil))) (pa_cons (pe_disp (pps_cons pe_str (pv 1) pps_nil) (by rfl) (by rfl) (fun z => by cases z) (by decide)) pa_nil)))))))))))
    (pss_one (ps_ret (pe_ix ix_list (pe_op op_cat (pv 4) (pe_lst1 (pa_cons (pe_lst1 pa_nil) (pa_cons pe_bl (pa_cons (pe_un un_neg pe_int) pa_nil))))) (pv 2) (fun _ _ => rfl)))))), ?_⟩
  walk_at "rd"
  have sz : sizeLine = 16777216 := sizeLine_eq
  refine ⟨p, 12, N, rfl, hp, by omega, by decide, by decide, fun kind H1 k0 k1 hp1 e1 => ?_⟩
  refine ⟨by omega, p, _, _, rfl, hp1, by omega, by omega, by omega, fun at_ H2 a0 a1 hp2 e2 => ?_⟩
  walk_at "rd"
  have ln : (Str.ofString "\n").length = 1 := by decide +kernel
  have lt : (Str.ofString "\t").length = 1 := by decide +kernel
  have sn : sg (Str.ofString "\n") = [10] := by decide +kernel
  have st : sg (Str.ofString "\t") = [9] := by decide +kernel
  have an : Asc (Str.ofString "\n") := fun c hc => by
    have : c ∈ sg (Str.ofString "\n") := hc
    rw [sn] at this
    have : c = 10 := by simpa using this
    omega
  have att : Asc (Str.ofString "\t") := fun c hc => by
    have : c ∈ sg (Str.ofString "\t") := hc
    rw [st] at this
    have : c = 9 := by simpa using this
    omega
  have a0s : Asc (Str.ofString "0000.") := (pl_of (z := Str.ofString "0000.") (by decide +kernel)).asc
  have aA : Asc (Str.ofString "a") := (pl_of (z := Str.ofString "a") (by decide +kernel)).asc
  have za := pz.asc
  have c1 := cutS_length z none (some at_)
  have c2 := cutS_length z (some at_) none
  refine ⟨by omega, by omega, by omega, by rw [append_len]; omega, by omega, by omega, by decide, ?_⟩
  intro p1 hp1 n1
  obtain ⟨G1, g1, S1, f1⟩ := gen_new (.lst [V.str z]) hp1
  simp only [g1]
  refine ⟨by decide, ?_⟩
  intro p2 hp2' 
  obtain ⟨G2, g2, S2, f2⟩ := gen_new (.tup [V.str z, V.str (Str.ofString "0000.")]) hp2'
  simp only [g2]
  intro p3 hp3
  refine ⟨[(Sum.inr (Str.ofString "a"), V.str z)], rfl, by show 1 ≤ 15; decide, by decide, ?_⟩
  obtain ⟨G3, g3, S3, f3⟩ := gen_new (.dK (mergeK [] [((Sum.inr (Str.ofString "a") : Key), V.str z)])) hp3
  simp only [g3]
  intro p4 hp4 n4
  obtain ⟨G4, g4, S4, f4⟩ := gen_new (.lst [V.str (cutS z none (some at_) ++ Str.ofString "\n" ++ cutS z (some at_) none), V.str (z ++ Str.ofString "\n"), V.str (Str.ofString "\t" ++ z), V.non, V.int 0, V.bl true, V.ref p1, V.ref p2, V.ref p3]) hp4
  simp only [g4]
  refine ⟨by decide, ?_⟩
  intro p5 hp5 n5
  obtain ⟨G5, g5, S5, f5⟩ := gen_new (.lst []) hp5
  simp only [g5]
  refine ⟨by decide, ?_⟩
  intro p6 hp6 n6
  obtain ⟨G6, g6, S6, f6⟩ := gen_new (.lst [V.ref p5, V.bl false, V.int (-1)]) hp6
  simp only [g6]
  refine ⟨p4, p6, _, _, rfl, rfl, S6 _ _ (S5 _ _ f4), f6, by rw [sz]; show 9 + 3 ≤ 16777216; decide, ?_⟩
  intro p7 hp7
  obtain ⟨G7, g7, S7, f7⟩ := gen_new (.lst ([V.str (cutS z none (some at_) ++ Str.ofString "\n" ++ cutS z (some at_) none), V.str (z ++ Str.ofString "\n"), V.str (Str.ofString "\t" ++ z), V.non, V.int 0, V.bl true, V.ref p1, V.ref p2, V.ref p3] ++ [V.ref p5, V.bl false, V.int (-1)])) hp7
  simp only [g7]
  have S27 : Same H2 G7 := Same.trans S1 (Same.trans S2 (Same.trans S3 (Same.trans S4 (Same.trans S5 (Same.trans S6 S7)))))
  have E7 : Ext1 p H G7 := (e1.trans e2).trans (Nv.Same.ext1 S27)
  have bx : BoxAt G7 p (N + 2) := BoxAt.mono S27 hp2
  have E2 : Ext1 p H H2 := e1.trans e2
  have fr : ∀ {a : Addr}, H2 a = none → H a = none := fun h => freeOf hp2 E2 h
  have b2 : H p2 = none := fr (S1.free hp2')
  have b3 : H p3 = none := fr (S1.free (S2.free hp3))
  have b5 : H p5 = none := fr (S1.free (S2.free (S3.free (S4.free hp5))))
  have ap : ∀ {q : Addr}, H q = none → Apart H (.ref q) := fun h a e => by
    cases e
    exact h
  have fl : ∀ {v : V} {d : PyData}, FD v d → (∀ y, d = .str y → okS y = false) → Q v G7 := fun h no => k _ _ G7 (.flat h) (apart_flat h) no bx E7
  have zl : FD (.str z) (.str z) := .str z (by omega) za
  have m10 : (10 : Nat) ∈ sg (Str.ofString "\n") := by rw [sn]; simp
  have m9 : (9 : Nat) ∈ sg (Str.ofString "\t") := by rw [st]; simp
  rcases twelve k0 k1 with e | e | e | e | e | e | e | e | e | e | e | e <;> subst e <;> refine r_ixL (SqL.of f7) (atI_nat rfl) ?_
  · exact fl (.str _ (by rw [append_len, append_len]; omega) (((za.cut _ _).app an).app (za.cut _ _))) fun y ey => by
      cases ey
      exact okS_no (c := 10) (by rw [sg_app, sg_app]; exact List.mem_append_left _ (List.mem_append_right _ m10)) rfl
  · exact fl (.str _ (by rw [append_len]; omega) (za.app an)) fun y ey => by
      cases ey
      exact okS_no (c := 10) (by rw [sg_app]; exact List.mem_append_right _ m10) rfl
  · exact fl (.str _ (by rw [append_len]; omega) (att.app za)) fun y ey => by
      cases ey
      exact okS_no (c := 9) (by rw [sg_app]; exact List.mem_append_left _ m9) rfl
  · exact fl .non fun y ey => nomatch ey
  · exact fl (.int _ (by decide)) fun y ey => nomatch ey
  · exact fl (.bl _) fun y ey => nomatch ey
  · exact k _ _ G7 (.lst (S7 _ _ (S6 _ _ (S5 _ _ (S4 _ _ (S3 _ _ (S2 _ _ f1)))))) n1 (.cons zl .nil) (by show 1 ≤ 3; decide)) (ap (fr hp1)) (fun y ey => nomatch ey) bx E7
  · exact k _ _ G7 (.tup (S7 _ _ (S6 _ _ (S5 _ _ (S4 _ _ (S3 _ _ f2))))) (.cons zl (.cons (.str _ (by decide +kernel) a0s) .nil)) (by show 2 ≤ 3; decide)) (ap b2) (fun y ey => nomatch ey) bx E7
  · exact k _ _ G7 (.dct (S7 _ _ (S6 _ _ (S5 _ _ (S4 _ _ f3)))) (by decide +kernel) aA zl) (ap b3) (fun y ey => nomatch ey) bx E7
  · exact k _ _ G7 (.lst (S7 _ _ (S6 _ _ f5)) n5 .nil (by decide)) (ap b5) (fun y ey => nomatch ey) bx E7
  · exact fl (.bl _) fun y ey => nomatch ey
  · exact fl (.int _ (by decide)) fun y ey => nomatch ey
end
end K05


namespace K05
open PySem L2 Nv

def spDoors : Sp := fun vs H Q _ => ∃ p N z great, vs = [.ref p, .str z, .bl great] ∧ BoxAt H p N ∧ N ≤ 800000 ∧ Pl z ∧ z.length ≤ 64 ∧ ∀ H', BoxAt H' p (N + 30) → Ext1 p H H' → Q (.bl true) H'
section
variable {P : Program} {w : World} {K : PySem.W.Frag} {mg : Str → Option Value} {base : Heap}
theorem ok_l_doors (T : Tx K mg) : FnG P w K mg base 5 T.d_l_doors.f T.d_l_doors.fd ["_law_box_here", "_law_text_here", "_law_great"] spDoors := by
  refine okG0 T.d_l_doors.F sc_l_doors (fun vs H Q E h => ?_) (fun cdv A outer s H vs Q E hg hr h => ?_)
  · obtain ⟨p, N, z, great, rfl, _⟩ := h
    rfl
  obtain ⟨p, N, z, great, rfl, hp, hN, pz, lz, k⟩ := h
  refine ⟨_, (pss_cons (ps_for PassesOwn.never rfl (pi_range1 (by rfl) T.n_range (pa_cons pe_int pa_nil)) (pg_name (i := 3) sc_l_doors.nd rfl (Or.inl rfl))
      (pss_cons (ps_par (i := 4) (j := 5) rfl sc_l_doors.nd rfl rfl (by decide) rfl rfl (pa_cons (pe_op op_modN (pe_callTy call_intI (by rfl) T.n_int (by decide +kernel) (pa_cons (pv 3) pa_nil)) pe_int) (pa_cons (pe_cG (ok_l_take T) T.d_l_take.b takes0 hg (hr.mono (by decide)) T.d_l_take.m T.d_l_take.F.kp (pa_cons (pv 0) (pa_cons pe_int pa_nil))) pa_nil)) (by rfl))
      (pss_cons (ps_set (i := 6) sc_l_doors.nd rfl (Or.inl rfl) (pe_cG (ok_l_odd T) T.d_l_odd.b takes0 hg (hr.mono (by decide)) T.d_l_odd.m T.d_l_odd.F.kp (pa_cons (pv 0) (pa_cons (pe_ifExp (pt_cmpR op_eq (pv 4) pe_int (nomark _)) (pv 1) (pe_op op_add_str (pe_cG (ok_l_frame T) T.d_l_frame.b takes0 hg (hr.mono (by decide)) T.d_l_frame.m T.d_l_frame.F.kp (pa_cons (pv 1) pa_nil)) pe_str)) pa_nil))))
      (C8.pss_cut (ps_if (PW.pt (pw_and (pt_val (pv 2)) (pw_and1 (pt_cmpR op_eq (pv 3) pe_int (nomark _)))))
        (pss_one (ps_set (i := 6) sc_l_doors.nd rfl (Or.inl rfl) (pe_slice sl_str (pe_op op_mul_str (pe_cG0 (ok_l_alphabet T) T.d_l_alphabet.b takes0 hg (hr.mono (by decide)) T.d_l_alphabet.m T.d_l_alphabet.F.kp) pe_int) po_none (po_some pe_int))))
        pss_nil)
      (pss_cons (ps_set (i := 7) sc_l_doors.nd rfl (Or.inl rfl) (pe_cG (ok_l_refused T) T.d_l_refused.b takes0 hg (hr.mono (by decide)) T.d_l_refused.m T.d_l_refused.F.kp (pa_cons (pv 4) (pa_cons (pv 6) (pa_cons (pv 5) pa_nil)))))
      (C8.pss_cut (ps_if (pt_val (pe_callB call_isi (by rfl) T.n_isinstance (by decide +kernel) (pa_cons (pv 6) (pa_cons (pe_bltn (v := .ty "list") (by rfl) T.n_list (by decide +kernel) rfl) pa_nil))))
        (pss_one (ps_expr (pe_bm PySem.F.plainAttrs_list PySem.F.slot_list_append PySem.F.type_list_append mt_append (pv 6) (pa_cons pe_str pa_nil))))
        pss_nil)
      (pss_one (ps_if (pt_cmpR op_ne (pe_callB (call_repr hg hr.units) (by rfl) T.n_repr (by decide +kernel) (pa_cons (pv 7) pa_nil)) (pe_callB (call_repr hg hr.units) (by rfl) T.n_repr (by decide +kernel) (pa_cons (pe_lst1 (pa_cons (pv 4) (pa_cons (pv 6) pa_nil))) pa_nil)) (nomark _))
        (pss_one (ps_ret pe_bl))
        pss_nil))))))))
    (pss_one (ps_ret (pe_cG (ok_l_equal T) T.d_l_equal.b takes0 hg (hr.mono (by decide)) T.d_l_equal.m T.d_l_equal.F.kp (pa_cons (pe_lst1 (pa_cons (pe_cG (ok_framed T) T.d_framed.b takes0 hg (hr.mono (by decide)) T.d_framed.m T.d_framed.F.kp (pa_cons (pv 1) pa_nil)) (pa_cons (pe_cG (ok_frames_in T) T.d_frames_in.b takes0 hg (hr.mono (by decide)) T.d_frames_in.m T.d_frames_in.F.kp (pa_cons pe_str pa_nil)) pa_nil))) (pa_cons (pe_lst1 (pa_cons (pe_cG (ok_l_frame T) T.d_l_frame.b takes0 hg (hr.mono (by decide)) T.d_l_frame.m T.d_l_frame.F.kp (pa_cons (pv 1) pa_nil)) (pa_cons (pe_tup (pa_cons (pe_lst1 pa_nil) (pa_cons pe_int pa_nil))) pa_nil))) pa_nil)))))), ?_⟩
  walk_at "rd"
  have sz : sizeLine = 16777216 := sizeLine_eq
  refine ⟨6, rfl, by decide, by decide, ?_⟩
  refine for_range (fun i σ H' => (∃ y3 y4 y5 y6 y7, σ = [some (.ref p), some (.str z), some (.bl great), y3, y4, y5, y6, y7]) ∧ BoxAt H' p (N + 3 * i) ∧ Ext1 p H H') ⟨⟨_, _, _, _, _, rfl⟩, hp, Ext1.refl _ _⟩ ?_ ?_
  · rintro i σ H1 hi ⟨⟨y3, y4, y5, y6, y7, rfl⟩, hp1, e1⟩
    have hi6 : i < 6 := hi
    walk_at "rd"
    obtain ⟨door, hdoor⟩ : ∃ door : Nat, door = i % 2 := ⟨_, rfl⟩
    have ed : ((0 : Int) + (i : Int)).fmod 2 = (door : Int) := by
      rw [Int.zero_add, Int.fmod_eq_emod_of_nonneg _ (by decide), hdoor]
      omega
    rw [ed]
    refine ⟨by decide, p, 2, _, rfl, hp1, by omega, by decide, by decide, fun turn H2 t0 t1 hp2 e2 => ?_⟩
    have E2 : Ext1 p H H2 := e1.trans e2
    have step : ∀ (Kc : V → Hp → Prop) (E1 E2 : XK), (∀ v d H3, V1 H3 v d → Apart H2 v → (∀ y, d = .str y → okS y = false) → BoxAt H3 p (N + 3 * i + 3) → Ext1 p H2 H3 → Kc v H3) →
        (if (door : Int) = 0 then spOdd [V.ref p, V.str z] H2 Kc E1 else spFrame [V.str z] H2 (fun x H1 => ∃ j, x = V.str j ∧ j.length + (Str.ofString "0000.").length ≤ sizeLine ∧ spOdd [V.ref p, V.str (j ++ Str.ofString "0000.")] H1 Kc E1) E2) := by
      intro Kc E1 E2 q
      have l5 : (Str.ofString "0000.").length = 5 := by decide +kernel
      have p5 : Pl (Str.ofString "0000.") := pl_of (by decide +kernel)
      split
      · exact ⟨p, _, z, rfl, hp2, by omega, pz, by omega, fun v d H3 a b c hb e => q v d H3 a b c (hb.le (by omega)) e⟩
      · refine ⟨z, rfl, by omega, _, rfl, by rw [frT_len]; omega, ?_⟩
        exact ⟨p, _, _, rfl, hp2, by omega, (frT_pl pz).app p5, by rw [append_len, frT_len]; omega, fun v d H3 a b c hb e => q v d H3 a b c (hb.le (by omega)) e⟩
    refine ⟨rfl, step _ _ _ fun v d H3 hv av hno hb3 e3 => ?_⟩
    let Mid : L2.St → Hp → Prop := fun σ' H' => H3 = H' ∧ ∃ v' d', V1 H3 v' d' ∧ Apart H2 v' ∧ (∀ y, d' = .str y → y.length ≤ 100000 ∧ (okS y = true → door = 0 ∧ 9999 < y.length)) ∧
      σ' = [some (V.ref p), some (V.str z), some (V.bl great), some (V.int (0 + (i : Int))), some (V.int (door : Int)), some (V.int turn), some v', y7]
    have hvs : ∀ y, d = .str y → y.length ≤ 100000 := fun y e => by
      subst e
      cases hv with
      | flat f =>
        cases f with
        | str _ h _ => omega
    refine ⟨Mid, ?_, ?_⟩
    · walk_at "rd"
      have old : Mid [some (V.ref p), some (V.str z), some (V.bl great), some (V.int (0 + (i : Int))), some (V.int (door : Int)), some (V.int turn), some v, y7] H3 :=
        ⟨rfl, v, d, hv, av, fun y e => ⟨hvs y e, fun h => by rw [hno y e] at h; cases h⟩, rfl⟩
      cases great with
      | false =>
        simp only [Bool.false_eq_true, ↓reduceIte]
        exact old
      | true =>
        simp only [↓reduceIte]
        refine ⟨rfl, ?_⟩
        by_cases h4 : (0 : Int) + (i : Int) = 4
        · simp only [h4, decide_true, ↓reduceIte]
          have ml := sg_mul alpha 107
          have pm : Pl (Txt.mul alpha 107) := alpha_pl.mul _
          refine ⟨rfl, _, _, rfl, rfl, mulOk_of (by decide) (by decide) (by rw [alpha_len]; decide), ?_⟩
          obtain ⟨B, hB⟩ : ∃ B, B = Txt.mul alpha 107 := ⟨_, rfl⟩
          have ml2 : sg B = (List.replicate 107 (sg alpha)).flatten := by rw [hB]; exact ml
          rw [← hB] at pm ⊢
          clear hB ml
          have lB : B.length = 10058 := by
            rw [← sg_len, ml2]
            simp [sg_len, alpha_len]
          refine ⟨B, rfl, by omega, ?_⟩
          have q2 : sg (cutS B none (some 10000)) = (sg B).take 10000 := cut_to B 10000
          obtain ⟨C, hC⟩ : ∃ C, C = cutS B none (some 10000) := ⟨_, rfl⟩
          rw [← hC] at q2 ⊢
          have lC : C.length = 10000 := by
            rw [← sg_len, q2, List.length_take, sg_len, lB]
            decide
          have pC : Pl C := by
            rw [hC]
            exact pm.cut _ _
          clear hC q2
          refine ⟨rfl, _, _, .flat (.str C (by rw [lC]; decide) pC.asc), (fun a e => nomatch e), fun y e => ?_, by rw [h4]⟩
          cases e
          exact ⟨by omega, fun _ => ⟨by omega, by omega⟩⟩
        · simp only [h4, decide_false, Bool.false_eq_true, ↓reduceIte]
          exact old
    rintro _ _ ⟨rfl, v2, d2, hv2, av2, hs2, rfl⟩
    walk_at "rd"
    refine ⟨door, v2, turn, d2, rfl, by omega, hv2.dv, hs2, fun l H4 hl nl S4 hl4 => ?_⟩
    have hv4 : V1 H4 v2 d2 := hv2.mono fun a o _ h => S4 a o h
    have hb4 := BoxAt.mono S4 hb3
    have E4 : Ext1 p H H4 := (E2.trans e3).trans (Nv.Same.ext1 S4)
    refine ⟨fun σ' H' => ∃ d', DV H' v2 d' ∧ Shw 50000 2 d' ∧ H' l = some (.lst [V.int (door : Int), v2]) ∧ BoxAt H' p (N + 3 * i + 3) ∧ Ext1 p H H' ∧
      σ' = [some (V.ref p), some (V.str z), some (V.bl great), some (V.int (0 + (i : Int))), some (V.int (door : Int)), some (V.int turn), some v2, some (.ref l)], ?_, ?_⟩
    · walk_at "rd"
      refine r_isi hv4.dv (kit_list d2) ⟨_, rfl, ?_⟩
      by_cases hL : isL d2 = true
      · rw [hL]
        simp only [↓reduceIte]
        obtain ⟨x, xs, ds, rfl, rfl, hx, nx, pr, le⟩ := hv4.isL hL
        have hx2 : H2 x = none := av2 x rfl
        have nxl : l ≠ x := fun q => by
          subst q
          have hx3 : H3 l ≠ none := fun h => by
            cases hv2 with
            | flat f => cases f
            | lst h2 _ _ _ => rw [h] at h2; cases h2
          exact hx3 hl
        have nxp : x ≠ p := fun q => by
          obtain ⟨_, _, _, _, hb, _⟩ := hp2
          rw [q, hb] at hx2
          cases hx2
        refine ⟨.inl ⟨rfl, _, .inl (.inl hx)⟩, x, _, _, rfl, rfl, hx, by omega, ?_⟩
        refine ⟨.list (ds ++ [.str "more"]), ?_, ?_, ?_, ?_, ?_⟩
        · have app : ∀ {H : Hp} {xs ys : List V} {ds es : List PyData}, DVs H xs ds → DVs H ys es → DVs H (xs ++ ys) (ds ++ es) := by
            intro H xs ys ds es h1 h2
            induction xs generalizing ds with
            | nil =>
              cases h1
              exact h2
            | cons a r ih =>
              cases h1 with
              | cons q t => exact .cons q (ih t)
          exact .lst upd_same nx (app (FD.dvs pr) (.cons (.str _) .nil))
        · have a1 := FD.shws (D := 1) pr
          have am : Asc (Str.ofString "more") := (pl_of (z := Str.ofString "more") (by decide +kernel)).asc
          have a2 : Shws 5 1 [PyData.str "more"] := (Shws.cons (W1 := 4) (Shw.str (z := "more") am) (Shws.nil (W := 0)))
          exact (Shw.list (Shws.app a1 a2)).le (by omega) (Nat.le_refl _)
        · rw [upd_ne nxl]
          exact hl4
        · obtain ⟨n, b, m, cc, hb, r⟩ := hb4
          exact ⟨n, b, m, cc, by rw [upd_ne (Ne.symm nxp)]; exact hb, r⟩
        · intro a o na ha
          rw [upd_ne (ne_of_none ha (freeOf hp2 E2 hx2))]
          exact E4 a o na ha
      · have hL' : isL d2 = false := by simpa using hL
        rw [hL']
        simp only [Bool.false_eq_true, ↓reduceIte]
        exact ⟨d2, hv4.dv, hv4.shw.le (by decide) (by decide), hl4, hb4, E4⟩
    rintro _ H5 ⟨d5, dv5, sh5, hl5, hb5, E5, rfl⟩
    walk_at "rd"
    have sr : Shw 60000 3 (.list [.int (door : Int), d5]) := (Shw.list (Shws.cons (Shw.int (D := 2) (i := (door : Int)) ⟨by omega, by omega⟩) (Shws.cons sh5 (Shws.nil (W := 0))))).le (by decide) (by decide)
    refine r_repr (.lst hl5 nl (.cons (.int _) (.cons dv5 .nil))) sr (by decide) (by decide) ?_
    refine ⟨by decide, fun q hq nq => ?_⟩
    obtain ⟨H6, e6, S6, f6⟩ := gen_new (.lst [V.int (door : Int), v2]) hq
    simp only [e6]
    refine r_repr (.lst f6 nq (.cons (.int _) (.cons (dv5.mono fun a o h => S6 a o h) .nil))) sr (by decide) (by decide) ?_
    refine ⟨by simp [scal], ?_⟩
    simp only [decide_true, Bool.true_eq_false, ↓reduceIte]
    refine ⟨?_, (BoxAt.mono S6 hb5).le (by omega), E5.trans (Nv.Same.ext1 S6)⟩
    exact ⟨_, rfl⟩
  · rintro σ H1 ⟨⟨y3, y4, y5, y6, y7, rfl⟩, hp1, e1⟩
    walk_at "rd"
    have hpe : Fr.parse (sg (Str.ofString "")) = ([], 0) := by decide +kernel
    have le : (Str.ofString "").length = 0 := by decide +kernel
    have oe : okS (Str.ofString "") = true := by decide +kernel
    refine ⟨_, _, rfl, .str z, (fun y e => by cases e; omega), (fun y e _ _ => ?_), fun h => ?_⟩
    rotate_left
    · have := h z rfl pz.ok
      omega
    cases e
    refine ⟨_, _, rfl, .str _, (fun y e _ => ?_), fun h => absurd ((h _ rfl).symm.trans oe) (by decide)⟩
    cases e
    refine ⟨by omega, fun t1 l1 H2 n1 n2 _ n3 S2 x2 f2 => ?_⟩
    rw [hpe] at x2 f2
    refine ⟨by decide, fun q1 hq1 _ => ?_⟩
    obtain ⟨H3, e3, S3, f3⟩ := gen_new (.lst [V.str (frT z), V.ref t1]) hq1
    simp only [e3]
    refine ⟨z, rfl, by omega, by decide, fun q2 hq2 _ => ?_⟩
    obtain ⟨H4, e4, S4, f4⟩ := gen_new (.lst []) hq2
    simp only [e4]
    refine ⟨by decide, fun q3 hq3 => ?_⟩
    obtain ⟨H5, e5, S5, f5⟩ := gen_new (.tup [V.ref q2, V.int 0]) hq3
    simp only [e5]
    refine ⟨by decide, fun q4 hq4 _ => ?_⟩
    obtain ⟨H6, e6, S6, f6⟩ := gen_new (.lst [V.str (frT z), V.ref q3]) hq4
    simp only [e6]
    have S36 : Same H3 H6 := Same.trans S4 (Same.trans S5 S6)
    have S26 : Same H2 H6 := Same.trans S3 S36
    have ft1 : Dp K H6 (.ref t1) (pairD [] 0) := pair_dp (S26 _ _ f2) (S26 _ _ x2)
    have ft2 : Dp K H6 (.ref q3) (pairD [] 0) := pair_dp (l := q2) (S6 _ _ f5) (S6 _ _ (S5 _ _ f4))
    have fr := Ft.str (D := 2) (frT_pl pz).asc
    have fp : Ft 200 2 (pairD [] 0) := (Ft.tuple (Fts.cons (Ft.list (Fts.nil (W := 0) (D := 0))) (Fts.cons (Ft.int (D := 1) (i := 0) (by decide)) (Fts.nil (W := 0) (D := 1))))).le (by decide) (Nat.le_refl _)
    have ff := Ft.list (Fts.cons fr (Fts.cons fp (Fts.nil (W := 0) (D := 2))))
    have lz2 : (frT z).length ≤ 69 := by rw [frT_len]; omega
    have S16 : Same H1 H6 := Same.trans S2 S26
    refine ⟨_, _, _, _, _, rfl, .lst (SqL.of (S36 _ _ f3)) (.cons (.str _) (.cons ft1 .nil)), .lst (SqL.of f6) (.cons (.str _) (.cons ft2 .nil)), .inr ⟨_, rfl⟩, .inr ⟨_, rfl⟩, ff, by omega, by decide, ?_⟩
    exact k H6 ((BoxAt.mono S16 hp1).le (by show N + 3 * 6 ≤ N + 30; omega)) (e1.trans (Nv.Same.ext1 S16))
end
end K05


namespace K05
open PySem L2 Nv

theorem mulOk2 {z : Str} {n : Int} (h1 : n ≤ 10000) (h0 : -1000 ≤ n) (h2 : z.length ≤ 1000) : MulOk z n := by
  refine ⟨?_, ?_, ?_⟩
  · simp
    constructor <;> omega
  · intro hn _ h
    have hp : 0 < n := by omega
    have : (922337203685477 : Int) ≤ (2 ^ 63 - 1) / n := by
      refine Int.le_ediv_of_mul_le hp ?_
      have : (2 : Int) ^ 63 - 1 = 9223372036854775807 := by decide
      rw [this]
      omega
    omega
  · intro hn _
    have hm : z.length * n.toNat ≤ 1000 * 10000 := Nat.mul_le_mul h2 (by omega)
    unfold Builtin.Str.tooLong
    have : sizeLine = 16777216 := sizeLine_eq
    simp [this]
    omega
def spMany : Sp := fun vs H Q _ => ∃ p N, vs = [.ref p] ∧ BoxAt H p N ∧ N ≤ 800000 ∧ ∀ H', BoxAt H' p (N + 10) → Ext1 p H H' → Q (.bl true) H'
section
variable {P : Program} {w : World} {K : PySem.W.Frag} {mg : Str → Option Value} {base : Heap}
theorem ok_l_many_right (T : Tx K mg) : FnG P w K mg base 5 T.d_l_many_right.f T.d_l_many_right.fd ["_law_box_here"] spMany := by
  refine okG0 T.d_l_many_right.F sc_l_many_right (fun vs H Q E h => ?_) (fun cdv A outer s H vs Q E hg hr h => ?_)
  · obtain ⟨p, N, rfl, _⟩ := h
    rfl
  obtain ⟨p, N, rfl, hp, hN, k⟩ := h
  refine ⟨_, (pss_cons (ps_par3 (i := 1) (j := 2) (l := 3) rfl sc_l_many_right.nd rfl rfl rfl (by decide) (by decide) (by decide) rfl rfl rfl (pa_cons (pe_ix ix_list (pe_lst1 (pa_cons pe_int (pa_cons pe_int (pa_cons pe_int (pa_cons pe_int pa_nil))))) (pe_cG (ok_l_take T) T.d_l_take.b takes0 hg (hr.mono (by decide)) T.d_l_take.m T.d_l_take.F.kp (pa_cons (pv 0) (pa_cons pe_int pa_nil))) (fun _ _ => rfl)) (pa_cons (pe_ix ix_list (pe_lst1 (pa_cons pe_str (pa_cons pe_str (pa_cons pe_str (pa_cons pe_str pa_nil))))) (pe_cG (ok_l_take T) T.d_l_take.b takes0 hg (hr.mono (by decide)) T.d_l_take.m T.d_l_take.F.kp (pa_cons (pv 0) (pa_cons pe_int pa_nil))) (fun _ _ => rfl)) (pa_cons (pe_cG (ok_l_take T) T.d_l_take.b takes0 hg (hr.mono (by decide)) T.d_l_take.m T.d_l_take.F.kp (pa_cons (pv 0) (pa_cons pe_int pa_nil))) pa_nil))) (by rfl))
    (pss_cons (ps_par (i := 4) (j := 5) rfl sc_l_many_right.nd rfl rfl (by decide) rfl rfl (pa_cons (pe_op op_mul_str (pe_cG (ok_l_frame T) T.d_l_frame.b takes0 hg (hr.mono (by decide)) T.d_l_frame.m T.d_l_frame.F.kp (pa_cons (pv 2) pa_nil)) (pv 1)) (pa_cons (pe_op op_add (pe_callB call_len_str (by rfl) T.n_len (by decide +kernel) (pa_cons (pv 2) pa_nil)) pe_int) pa_nil)) (by rfl))
    (pss_cons (ps_set (i := 6) sc_l_many_right.nd rfl (Or.inl rfl) (pe_op op_fdivN (pe_op op_sub (pe_op op_mul (pv 1) (pv 5)) (pv 3)) (pv 5)))
    (pss_one (ps_ret (pe_cG (ok_l_told T) T.d_l_told.b takes0 hg (hr.mono (by decide)) T.d_l_told.m T.d_l_told.F.kp (pa_cons (pe_slice sl_str (pv 4) po_none (po_some (pe_op op_sub (pe_op op_mul (pv 1) (pv 5)) (pv 3)))) (pa_cons (pe_tup (pa_cons (pe_op op_rep (pe_lst1 (pa_cons (pv 2) pa_nil)) (pv 6)) (pa_cons (pe_op op_mul (pv 6) (pv 5)) pa_nil))) (pa_cons (pe_cG (ok_l_take T) T.d_l_take.b takes0 hg (hr.mono (by decide)) T.d_l_take.m T.d_l_take.F.kp (pa_cons (pv 0) (pa_cons pe_int pa_nil))) pa_nil))))))))), ?_⟩
  walk_at "rd"
  have sz : sizeLine = 16777216 := sizeLine_eq
  refine ⟨by decide, fun q1 hq1 _ => ?_⟩
  obtain ⟨H1, e1, S1, f1⟩ := gen_new (.lst [V.int 130, V.int 700, V.int 1100, V.int 1900]) hq1
  simp only [e1]
  have hp1 := BoxAt.mono S1 hp
  refine ⟨p, 4, N, rfl, hp1, by omega, by decide, by decide, fun m H2 m0 m1 hp2 e2 => ?_⟩
  have nq1 : q1 ≠ p := box_ne hp1 f1 fun x hx => by
    simp only [List.mem_cons, List.not_mem_nil, or_false] at hx
    rcases hx with h | h | h | h <;> exact ⟨_, h⟩
  have f1' := e2 _ _ nq1 f1
  obtain ⟨M, hM0, hM1, hatM⟩ : ∃ M : Nat, 130 ≤ M ∧ M ≤ 1900 ∧ atI [V.int 130, V.int 700, V.int 1100, V.int 1900] m = some (V.int (M : Int)) := by
    have hh : m = ((0 : Nat) : Int) ∨ m = ((1 : Nat) : Int) ∨ m = ((2 : Nat) : Int) ∨ m = ((3 : Nat) : Int) := by omega
    rcases hh with e | e | e | e <;> subst e
    · exact ⟨130, by omega, by omega, atI_nat rfl⟩
    · exact ⟨700, by omega, by omega, atI_nat rfl⟩
    · exact ⟨1100, by omega, by omega, atI_nat rfl⟩
    · exact ⟨1900, by omega, by omega, atI_nat rfl⟩
  refine r_ixL (SqL.of f1') hatM ?_
  refine ⟨by decide, fun q2 hq2 _ => ?_⟩
  obtain ⟨H3, e3, S3, f3⟩ := gen_new (.lst [V.str (Str.ofString ""), V.str (Str.ofString "0"), V.str (Str.ofString "."), V.str (Str.ofString "a")]) hq2
  simp only [e3]
  have hp3 := BoxAt.mono S3 hp2
  refine ⟨p, 4, _, rfl, hp3, by omega, by decide, by decide, fun n H4 n0 n1 hp4 e4 => ?_⟩
  have nq2 : q2 ≠ p := fun e => by
    obtain ⟨_, _, _, _, hx, _⟩ := hp3
    rw [e, hx] at f3
    cases f3
  have f3' := e4 _ _ nq2 f3
  obtain ⟨z, pz, lz, hatz⟩ : ∃ z : Str, Pl z ∧ z.length ≤ 1 ∧ atI [V.str (Str.ofString ""), V.str (Str.ofString "0"), V.str (Str.ofString "."), V.str (Str.ofString "a")] n = some (V.str z) := by
    have hh : n = ((0 : Nat) : Int) ∨ n = ((1 : Nat) : Int) ∨ n = ((2 : Nat) : Int) ∨ n = ((3 : Nat) : Int) := by omega
    rcases hh with e | e | e | e <;> subst e
    · exact ⟨_, pl_of (by decide +kernel), by decide +kernel, atI_nat rfl⟩
    · exact ⟨_, pl_of (by decide +kernel), by decide +kernel, atI_nat rfl⟩
    · exact ⟨_, pl_of (by decide +kernel), by decide +kernel, atI_nat rfl⟩
    · exact ⟨_, pl_of (by decide +kernel), by decide +kernel, atI_nat rfl⟩
  refine r_ixL (SqL.of f3') hatz ?_
  refine ⟨p, 97, _, rfl, hp4, by omega, by decide, by decide, fun less H5 l0 l1 hp5 e5 => ?_⟩
  obtain ⟨ls, rfl⟩ : ∃ j : Nat, less = (j : Int) := ⟨less.toNat, by omega⟩
  have E5 : Ext1 p H H5 := (Nv.Same.ext1 S1).trans (e2.trans ((Nv.Same.ext1 S3).trans (e4.trans e5)))
  refine ⟨z, rfl, by omega, ?_⟩
  have lf := frT_len z
  refine ⟨_, _, rfl, rfl, mulOk2 (by omega) (by omega) (by omega), _, rfl, by omega, ?_⟩
  obtain ⟨g, hg5⟩ : ∃ g : Nat, g = z.length + 5 := ⟨_, rfl⟩
  have eg : (z.length : Int) + 5 = (g : Int) := by omega
  rw [eg]
  walk_at "rd"
  obtain ⟨c, hc⟩ : ∃ c : Nat, c + ls = M * g := ⟨M * g - ls, by
    have : 130 * 5 ≤ M * g := Nat.mul_le_mul hM0 (by omega)
    omega⟩
  have ec : (M : Int) * (g : Int) - (ls : Int) = (c : Int) := by
    have : ((c + ls : Nat) : Int) = ((M * g : Nat) : Int) := by rw [hc]
    rw [Int.natCast_mul] at this
    omega
  rw [ec]
  have efd : (c : Int).fdiv (g : Int) = ((c / g : Nat) : Int) := by
    rw [Int.fdiv_eq_ediv_of_nonneg _ (by omega)]
    rfl
  have cm : c / g ≤ M := by
    refine Nat.div_le_of_le_mul ?_
    rw [Nat.mul_comm]
    omega
  obtain ⟨kk, hkk⟩ : ∃ kk, kk = c / g := ⟨_, rfl⟩
  rw [← hkk] at efd cm
  rw [efd]
  have Mg : M * g ≤ 1900 * 6 := Nat.mul_le_mul hM1 (by omega)
  obtain ⟨R, hR⟩ : ∃ R, R = Txt.mul (frT z) (M : Int) := ⟨_, rfl⟩
  have sR : sg R = Fr.row (List.replicate M (sg z)) := by
    rw [hR, sg_mul, Fr.row_rep]
    unfold frT
    rw [sg_tx]
  have pR : Pl R := by
    rw [hR]
    exact (frT_pl pz).mul _
  have lR : R.length = M * g := by
    rw [← sg_len, sR, Fr.row_len, Fr.total_rep, sg_len, hg5]
  rw [← hR]
  clear hR
  have big : (2 : Int) ^ 64 = 18446744073709551616 := by decide
  refine ⟨cmul_l (by omega) (by omega), ⟨by omega, by omega⟩, cmul_l (by omega) (by omega), by omega, by decide, fun q3 hq3 _ => ?_⟩
  refine ⟨q3, _, _, rfl, rfl, upd_same, by omega, by omega, ?_, fun q4 hq4 => ?_⟩
  · show 1 * (kk : Int).toNat ≤ sizeLine
    rw [Int.toNat_natCast]
    omega
  obtain ⟨H6, e6, S6, f6⟩ := gen_new (.lst [V.str z]) hq3
  simp only [e6] at hq4 ⊢
  obtain ⟨H7, e7, S7, f7⟩ := gen_new (.lst (List.replicate (kk : Int).toNat [V.str z]).flatten) hq4
  simp only [e7]
  refine ⟨cmul_r (by omega) (by omega), by decide, fun q5 hq5 => ?_⟩
  obtain ⟨H8, e8, S8, f8⟩ := gen_new (.tup [V.ref q4, V.int ((kk : Int) * (g : Int))]) hq5
  simp only [e8]
  have S58 : Same H5 H8 := Same.trans S6 (Same.trans S7 S8)
  have hp8 := BoxAt.mono S58 hp5
  refine ⟨p, 2, _, rfl, hp8, by omega, by decide, by decide, fun turn H9 _ _ hp9 e9 => ?_⟩
  have nq5 : q5 ≠ p := fun e => by
    obtain ⟨_, _, _, _, hx, _⟩ := hp8
    rw [e, hx] at f8
    cases f8
  have f7' : TextsAt H8 q4 (List.replicate kk (sg z)) := by
    show H8 q4 = _
    rw [S8 _ _ f7, Int.toNat_natCast]
    simp [tx_sg]
  have nq4 : q4 ≠ p := texts_ne hp8 f7'
  have hcr : Fr.parse ((Fr.row (List.replicate M (sg z))).take c) = (List.replicate kk (sg z), kk * g) := by
    have h := Fr.parse_row (ts := List.replicate M (sg z)) (c := c) (fun t ht => by
      have := (List.mem_replicate.mp ht).2
      rw [this, sg_len]
      omega)
    have hg' : (sg z).length + 5 = g := by rw [sg_len, hg5]
    have hcnt := Fr.cnt_rep (sg z) M c (by rw [hg']; omega)
    rw [hg'] at hcnt
    rw [hcnt, ← hkk, List.take_replicate, Nat.min_eq_left cm, Fr.total_rep, hg'] at h
    exact h
  have scut : sg (cutS R none (some (c : Int))) = (Fr.row (List.replicate M (sg z))).take c := by rw [cut_to, sR]
  refine ⟨_, q5, q4, turn, rfl, pR.cut _ _, ?_, ?_, ?_, fun H10 S10 => ?_⟩
  · have := cutS_length R none (some (c : Int))
    omega
  · rw [scut, hcr, e9 _ _ nq5 f8]
    simp
  · rw [scut, hcr]
    exact e9 _ _ nq4 f7'
  · exact k H10 ((BoxAt.mono S10 hp9).le (by omega)) (E5.trans ((Nv.Same.ext1 S58).trans (e9.trans (Nv.Same.ext1 S10))))
def spRight : Sp := fun vs H Q _ => ∃ p great N, vs = [.ref p, .bl great] ∧ BoxAt H p N ∧ N ≤ 100 ∧ ∀ H', BoxAt H' p 1000 → Ext1 p H H' → Q (.bl true) H'
theorem ok_l_right (T : Tx K mg) : FnG P w K mg base 6 T.d_l_right.f T.d_l_right.fd ["_law_box_here", "_law_great"] spRight := by
  refine okG0 T.d_l_right.F sc_l_right (fun vs H Q E h => ?_) (fun cdv A outer s H vs Q E hg hr h => ?_)
  · obtain ⟨p, great, N, rfl, _⟩ := h
    rfl
  obtain ⟨p, great, N, rfl, hp, hN, k⟩ := h
  refine ⟨_, (pss_cons (ps_par (i := 2) (j := 3) rfl sc_l_right.nd rfl rfl (by decide) rfl rfl (pa_cons (pe_cG (ok_l_take T) T.d_l_take.b takes0 hg (hr.mono (by decide)) T.d_l_take.m T.d_l_take.F.kp (pa_cons (pv 0) (pa_cons pe_int pa_nil))) (pa_cons (pe_cG (ok_l_texts T) T.d_l_texts.b takes0 hg (hr.mono (by decide)) T.d_l_texts.m T.d_l_texts.F.kp (pa_cons (pv 0) (pa_cons (pv 1) pa_nil))) pa_nil)) (by rfl))
    (pss_cons (ps_if (PW.pt (pw_or (pt_not (pt_val (pe_cG (ok_l_cut_right T) T.d_l_cut_right.b takes0 hg (hr.mono (by decide)) T.d_l_cut_right.m T.d_l_cut_right.F.kp (pa_cons (pv 0) (pa_cons (pv 3) (pa_cons (pv 2) pa_nil)))))) (pw_or1 (pt_not (pt_val (pe_cG (ok_l_spoilt_right T) T.d_l_spoilt_right.b takes0 hg (hr.mono (by decide)) T.d_l_spoilt_right.m T.d_l_spoilt_right.F.kp (pa_cons (pv 0) (pa_cons (pv 3) (pa_cons (pv 2) pa_nil)))))))))
      (pss_one (ps_ret pe_bl))
      pss_nil)
    (pss_one (ps_ret (pe_cG (ok_l_doors T) T.d_l_doors.b takes0 hg (hr.mono (by decide)) T.d_l_doors.m T.d_l_doors.F.kp (pa_cons (pv 0) (pa_cons (pe_cG (ok_l_text T) T.d_l_text.b takes0 hg (hr.mono (by decide)) T.d_l_text.m T.d_l_text.F.kp (pa_cons (pv 0) pa_nil)) (pa_cons (pv 1) pa_nil)))))))), ?_⟩
  walk_at "rd"
  refine ⟨p, 2, N, rfl, hp, by omega, by decide, by decide, fun turn H1 _ _ hp1 e1 => ?_⟩
  refine ⟨p, _, great, rfl, hp1, by omega, fun l ts H2 n2 hl ht hp2 e2 => ?_⟩
  walk_at "rd"
  refine ⟨p, _, l, ts, turn, rfl, hp2, by omega, hl, ht, fun H3 hp3 e3 => ⟨_, rfl, ?_⟩⟩
  walk_at "rd"
  have nl := texts_ne hp2 hl
  refine ⟨p, _, l, ts, turn, rfl, hp3, by omega, e3 _ _ nl hl, ht, fun H4 hp4 e4 => ⟨_, rfl, ?_⟩⟩
  walk_at "rd"
  refine ⟨p, _, rfl, hp4, by omega, fun z H5 lz pz hp5 e5 => ?_⟩
  refine ⟨p, _, z, great, rfl, hp5, by omega, pz, lz, fun H6 hp6 e6 => ?_⟩
  exact k H6 (hp6.le (by omega)) (e1.trans (e2.trans (e3.trans (e4.trans (e5.trans e6)))))
def spLaw (K : PySem.W.Frag) : Sp := fun vs H Q _ => ∃ (a : Addr) (ns : List Int), vs = [.ref a] ∧ SqL K H a (ns.map V.int) ∧ ns.length ≤ 63 ∧ ∀ H', Q (.bl true) H'
theorem ok_law (T : Tx K mg) : FnG P w K mg base 7 T.d_law.f T.d_law.fd ["_law_script"] (spLaw K) := by
  refine okG0 T.d_law.F sc_law (fun vs H Q E h => ?_) (fun cdv A outer s H vs Q E hg hr h => ?_)
  · obtain ⟨a, ns, rfl, _⟩ := h
    rfl
  obtain ⟨a, ns, rfl, ha, hn, k⟩ := h
  refine ⟨_, (pss_cons (ps_for PassesOwn.never rfl (pi_range1 (by rfl) T.n_range (pa_cons (pe_callB (call_max2 rfl) (by rfl) T.n_max (by decide +kernel) (pa_cons pe_int (pa_cons (pe_callB (call_min2 rfl) (by rfl) T.n_min (by decide +kernel) (pa_cons pe_int (pa_cons (pe_callB call_len_seq (by rfl) T.n_len (by decide +kernel) (pa_cons (pv 0) pa_nil)) pa_nil))) pa_nil))) pa_nil)) (pg_name (i := 1) sc_law.nd rfl (Or.inl rfl))
      (pss_cons (ps_set (i := 2) sc_law.nd rfl (Or.inl rfl) (pe_cG (ok_l_box T) T.d_l_box.b takes0 hg (hr.mono (by decide)) T.d_l_box.m T.d_l_box.F.kp (pa_cons (pe_cG (ok_l_cell T) T.d_l_cell.b takes0 hg (hr.mono (by decide)) T.d_l_cell.m T.d_l_cell.F.kp (pa_cons (pv 0) (pa_cons (pv 1) pa_nil))) pa_nil)))
      (pss_one (ps_if (PW.pt (pw_or (pt_not (pt_val (pe_cG (ok_l_right T) T.d_l_right.b takes0 hg (hr.mono (by decide)) T.d_l_right.m T.d_l_right.F.kp (pa_cons (pv 2) (pa_cons (pe_and (pe_cmpR op_eq (pe_cG (ok_l_take T) T.d_l_take.b takes0 hg (hr.mono (by decide)) T.d_l_take.m T.d_l_take.F.kp (pa_cons (pv 2) (pa_cons pe_int pa_nil))) pe_int (nomark _)) (pe_one (pe_cmpR op_eq (pv 1) pe_int (nomark _)))) pa_nil))))) (pw_or1 (PW.pt (pw_and (pt_cmpR op_eq (pv 1) pe_int (nomark _)) (pw_and1 (pt_not (pt_val (pe_cG (ok_l_many_right T) T.d_l_many_right.b takes0 hg (hr.mono (by decide)) T.d_l_many_right.m T.d_l_many_right.F.kp (pa_cons (pv 2) pa_nil))))))))))
        (pss_one (ps_ret pe_bl))
        pss_nil))))
    (pss_one (ps_ret pe_bl))), ?_⟩
  walk_at "rd"
  have lo : ∀ x : Int, 0 ≤ (if (if x < 4 then x else 4) > 2 then (if x < 4 then x else 4) else 2) ∧ (if (if x < 4 then x else 4) > 2 then (if x < 4 then x else 4) else 2) ≤ 4 := fun x => by
    split <;> split <;> omega
  have lo1 := lo ((ns.map V.int).length : Int)
  refine ⟨_, rfl, _, rfl, _, .inl ha, _, _, rfl, _, _, rfl, _, rfl, Int.le_trans (by decide) lo1.1, Int.lt_of_le_of_lt lo1.2 (by decide), ?_⟩
  refine for_range (fun i σ H' => Same H H' ∧ ∃ x y, σ = [some (.ref a), x, y]) ⟨Same.refl H, _, _, rfl⟩ ?_ ?_
  · rintro i σ H1 hi ⟨S, x, y, rfl⟩
    have hi' : i < 4 := by
      have h2 := lo1.2
      have h1 := lo1.1
      have h3 : i < (if (if ((ns.map V.int).length : Int) < 4 then ((ns.map V.int).length : Int) else 4) > 2 then (if ((ns.map V.int).length : Int) < 4 then ((ns.map V.int).length : Int) else 4) else 2).toNat := hi
      omega
    walk_at "rd"
    refine ⟨a, ns, _, rfl, L2.Same.seq S ha, by omega, by omega, fun c H2 S2 => ?_⟩
    refine ⟨c, rfl, fun p H3 hp S3 b3 => ?_⟩
    walk_at "rd"
    refine ⟨p, 4, 0, rfl, b3, by omega, by decide, by decide, fun d H4 _ _ b4 e4 => ?_⟩
    have same : ∀ H5, Ext1 p H4 H5 → Same H H5 := fun H5 e5 y o hy => by
      have y2 := S2 _ _ (S _ _ hy)
      exact e5 _ _ (ne_of_none y2 hp) (e4 _ _ (ne_of_none y2 hp) (S3 _ _ y2))
    have fin : ∀ (H5 : Hp) (E' : XK), BoxAt H5 p 1000 → Ext1 p H4 H5 → scal (V.int (0 + (i : Int))) (V.int 1) = true ∧
        if (0 : Int) + (i : Int) = 1 then spMany [V.ref p] H5 (fun x H1 => ∃ c, x = V.bl c ∧ if c = false then Q (V.bl false) H1 else Same H H1 ∧ ∃ x, some (V.ref p) = x) E'
        else Same H H5 ∧ ∃ x, some (V.ref p) = x := by
      intro H5 E' b5 e5
      refine ⟨rfl, ?_⟩
      split
      · refine ⟨p, _, rfl, b5, by decide, fun H6 b6 e6 => ⟨_, rfl, ?_⟩⟩
        simp only [Bool.true_eq_false, ↓reduceIte]
        exact ⟨same H6 (e5.trans e6), _, rfl⟩
      · exact ⟨same H5 e5, _, rfl⟩
    refine ⟨rfl, ?_⟩
    by_cases hd : V.int d = V.int 3
    · rw [if_pos hd]
      refine ⟨rfl, p, _, _, rfl, b4, by decide, fun H5 b5 e5 => ⟨_, rfl, ?_⟩⟩
      simp only [Bool.true_eq_false, ↓reduceIte]
      exact fin H5 _ b5 e5
    · rw [if_neg hd]
      refine ⟨p, _, _, rfl, b4, by decide, fun H5 b5 e5 => ⟨_, rfl, ?_⟩⟩
      simp only [Bool.true_eq_false, ↓reduceIte]
      exact fin H5 _ b5 e5
  · rintro σ H1 ⟨S, x, y, rfl⟩
    walk_at "rd"
    exact k _
end
end K05

namespace K05
open PySem PySem.W PyProof.Rows L2 Nv
theorem all_mk {P : Program} {w : World} {K : PySem.W.Frag} {h : Heap} {mg : Str → Option Value} {fa : Addr} (X : K.In h) (G : h.Ns mainGlobals mg) (hfa : mg "law" = some (.ref fa))
    {C_InvalidText : Addr} {C_InvalidSigns : Addr} {C_UnsaidError : Addr} {oc_x_InvalidText : Value} {kV_x_InvalidText : Value} {dc_x_InvalidText : Value} {pm_x_InvalidText : Value} {cd_x_InvalidText : Value} {ct_x_InvalidText : Value} {od_x_InvalidText an_x_InvalidText : Option Addr} {sl_x_InvalidText : Array (Option Value)} {f_x_InvalidText : Addr} {oc_x_InvalidSigns : Value} {kV_x_InvalidSigns : Value} {dc_x_InvalidSigns : Value} {pm_x_InvalidSigns : Value} {cd_x_InvalidSigns : Value} {ct_x_InvalidSigns : Value} {od_x_InvalidSigns an_x_InvalidSigns : Option Addr} {sl_x_InvalidSigns : Array (Option Value)} {f_x_InvalidSigns : Addr} {nm_e_InvalidText q_e_InvalidText : Str} {N_e_InvalidText : Addr} {bs_e_InvalidText bm_e_InvalidText sub_e_InvalidText : List Value} {sn_e_InvalidText : List Str} {ab_e_InvalidText : Bool} {col_e_InvalidText : Option Bool} {dd_e_InvalidText : Option Addr} {k0_e_InvalidText k1_e_InvalidText k2_e_InvalidText k3_e_InvalidText k5_e_InvalidText : Option Value} {nm_e_InvalidSigns q_e_InvalidSigns : Str} {N_e_InvalidSigns : Addr} {bs_e_InvalidSigns bm_e_InvalidSigns sub_e_InvalidSigns : List Value} {sn_e_InvalidSigns : List Str} {ab_e_InvalidSigns : Bool} {col_e_InvalidSigns : Option Bool} {dd_e_InvalidSigns : Option Addr} {k0_e_InvalidSigns k1_e_InvalidSigns k2_e_InvalidSigns k3_e_InvalidSigns k5_e_InvalidSigns : Option Value} {t_FIGURES : Tok} {t_MOST_SIGNS : Tok} {t_END : Tok} {oc_d_is_signs : Value} {kV_d_is_signs : Value} {dc_d_is_signs : Value} {pm_d_is_signs : Value} {cd_d_is_signs : Value} {ct_d_is_signs : Value} {od_d_is_signs an_d_is_signs : Option Addr} {sl_d_is_signs : Array (Option Value)} {f_d_is_signs : Addr} {oc_d_framed : Value} {kV_d_framed : Value} {dc_d_framed : Value} {pm_d_framed : Value} {cd_d_framed : Value} {ct_d_framed : Value} {od_d_framed an_d_framed : Option Addr} {sl_d_framed : Array (Option Value)} {f_d_framed : Addr} {oc_d_frames_in : Value} {kV_d_frames_in : Value} {dc_d_frames_in : Value} {pm_d_frames_in : Value} {cd_d_frames_in : Value} {ct_d_frames_in : Value} {od_d_frames_in an_d_frames_in : Option Addr} {sl_d_frames_in : Array (Option Value)} {f_d_frames_in : Addr} {oc_d_frame_end : Value} {kV_d_frame_end : Value} {dc_d_frame_end : Value} {pm_d_frame_end : Value} {cd_d_frame_end : Value} {ct_d_frame_end : Value} {od_d_frame_end an_d_frame_end : Option Addr} {sl_d_frame_end : Array (Option Value)} {f_d_frame_end : Addr} {oc_d_l_cell : Value} {kV_d_l_cell : Value} {dc_d_l_cell : Value} {pm_d_l_cell : Value} {cd_d_l_cell : Value} {ct_d_l_cell : Value} {od_d_l_cell an_d_l_cell : Option Addr} {sl_d_l_cell : Array (Option Value)} {f_d_l_cell : Addr} {oc_d_l_box : Value} {kV_d_l_box : Value} {dc_d_l_box : Value} {pm_d_l_box : Value} {cd_d_l_box : Value} {ct_d_l_box : Value} {od_d_l_box an_d_l_box : Option Addr} {sl_d_l_box : Array (Option Value)} {f_d_l_box : Addr} {oc_d_l_take : Value} {kV_d_l_take : Value} {dc_d_l_take : Value} {pm_d_l_take : Value} {cd_d_l_take : Value} {ct_d_l_take : Value} {od_d_l_take an_d_l_take : Option Addr} {sl_d_l_take : Array (Option Value)} {f_d_l_take : Addr} {oc_d_l_alphabet : Value} {kV_d_l_alphabet : Value} {dc_d_l_alphabet : Value} {pm_d_l_alphabet : Value} {cd_d_l_alphabet : Value} {ct_d_l_alphabet : Value} {od_d_l_alphabet an_d_l_alphabet : Option Addr} {sl_d_l_alphabet : Array (Option Value)} {f_d_l_alphabet : Addr} {oc_d_l_frame : Value} {kV_d_l_frame : Value} {dc_d_l_frame : Value} {pm_d_l_frame : Value} {cd_d_l_frame : Value} {ct_d_l_frame : Value} {od_d_l_frame an_d_l_frame : Option Addr} {sl_d_l_frame : Array (Option Value)} {f_d_l_frame : Addr} {oc_d_l_text : Value} {kV_d_l_text : Value} {dc_d_l_text : Value} {pm_d_l_text : Value} {cd_d_l_text : Value} {ct_d_l_text : Value} {od_d_l_text an_d_l_text : Option Addr} {sl_d_l_text : Array (Option Value)} {f_d_l_text : Addr} {oc_d_l_texts : Value} {kV_d_l_texts : Value} {dc_d_l_texts : Value} {pm_d_l_texts : Value} {cd_d_l_texts : Value} {ct_d_l_texts : Value} {od_d_l_texts an_d_l_texts : Option Addr} {sl_d_l_texts : Array (Option Value)} {f_d_l_texts : Addr} {oc_d_l_read : Value} {kV_d_l_read : Value} {dc_d_l_read : Value} {pm_d_l_read : Value} {cd_d_l_read : Value} {ct_d_l_read : Value} {od_d_l_read an_d_l_read : Option Addr} {sl_d_l_read : Array (Option Value)} {f_d_l_read : Addr} {oc_d_l_equal : Value} {kV_d_l_equal : Value} {dc_d_l_equal : Value} {pm_d_l_equal : Value} {cd_d_l_equal : Value} {ct_d_l_equal : Value} {od_d_l_equal an_d_l_equal : Option Addr} {sl_d_l_equal : Array (Option Value)} {f_d_l_equal : Addr} {oc_d_l_told : Value} {kV_d_l_told : Value} {dc_d_l_told : Value} {pm_d_l_told : Value} {cd_d_l_told : Value} {ct_d_l_told : Value} {od_d_l_told an_d_l_told : Option Addr} {sl_d_l_told : Array (Option Value)} {f_d_l_told : Addr} {oc_d_l_ends : Value} {kV_d_l_ends : Value} {dc_d_l_ends : Value} {pm_d_l_ends : Value} {cd_d_l_ends : Value} {ct_d_l_ends : Value} {od_d_l_ends an_d_l_ends : Option Addr} {sl_d_l_ends : Array (Option Value)} {f_d_l_ends : Addr} {oc_d_l_cuts : Value} {kV_d_l_cuts : Value} {dc_d_l_cuts : Value} {pm_d_l_cuts : Value} {cd_d_l_cuts : Value} {ct_d_l_cuts : Value} {od_d_l_cuts an_d_l_cuts : Option Addr} {sl_d_l_cuts : Array (Option Value)} {f_d_l_cuts : Addr} {oc_d_l_cut_right : Value} {kV_d_l_cut_right : Value} {dc_d_l_cut_right : Value} {pm_d_l_cut_right : Value} {cd_d_l_cut_right : Value} {ct_d_l_cut_right : Value} {od_d_l_cut_right an_d_l_cut_right : Option Addr} {sl_d_l_cut_right : Array (Option Value)} {f_d_l_cut_right : Addr} {oc_d_l_spoilt : Value} {kV_d_l_spoilt : Value} {dc_d_l_spoilt : Value} {pm_d_l_spoilt : Value} {cd_d_l_spoilt : Value} {ct_d_l_spoilt : Value} {od_d_l_spoilt an_d_l_spoilt : Option Addr} {sl_d_l_spoilt : Array (Option Value)} {f_d_l_spoilt : Addr} {oc_d_l_spoilt_right : Value} {kV_d_l_spoilt_right : Value} {dc_d_l_spoilt_right : Value} {pm_d_l_spoilt_right : Value} {cd_d_l_spoilt_right : Value} {ct_d_l_spoilt_right : Value} {od_d_l_spoilt_right an_d_l_spoilt_right : Option Addr} {sl_d_l_spoilt_right : Array (Option Value)} {f_d_l_spoilt_right : Addr} {oc_d_l_refused : Value} {kV_d_l_refused : Value} {dc_d_l_refused : Value} {pm_d_l_refused : Value} {cd_d_l_refused : Value} {ct_d_l_refused : Value} {od_d_l_refused an_d_l_refused : Option Addr} {sl_d_l_refused : Array (Option Value)} {f_d_l_refused : Addr} {oc_d_l_odd : Value} {kV_d_l_odd : Value} {dc_d_l_odd : Value} {pm_d_l_odd : Value} {cd_d_l_odd : Value} {ct_d_l_odd : Value} {od_d_l_odd an_d_l_odd : Option Addr} {sl_d_l_odd : Array (Option Value)} {f_d_l_odd : Addr} {oc_d_l_doors : Value} {kV_d_l_doors : Value} {dc_d_l_doors : Value} {pm_d_l_doors : Value} {cd_d_l_doors : Value} {ct_d_l_doors : Value} {od_d_l_doors an_d_l_doors : Option Addr} {sl_d_l_doors : Array (Option Value)} {f_d_l_doors : Addr} {oc_d_l_many_right : Value} {kV_d_l_many_right : Value} {dc_d_l_many_right : Value} {pm_d_l_many_right : Value} {cd_d_l_many_right : Value} {ct_d_l_many_right : Value} {od_d_l_many_right an_d_l_many_right : Option Addr} {sl_d_l_many_right : Array (Option Value)} {f_d_l_many_right : Addr} {oc_d_l_right : Value} {kV_d_l_right : Value} {dc_d_l_right : Value} {pm_d_l_right : Value} {cd_d_l_right : Value} {ct_d_l_right : Value} {od_d_l_right an_d_l_right : Option Addr} {sl_d_l_right : Array (Option Value)} {f_d_l_right : Addr} {oc_d_law : Value} {kV_d_law : Value} {dc_d_law : Value} {pm_d_law : Value} {cd_d_law : Value} {ct_d_law : Value} {od_d_law an_d_law : Option Addr} {sl_d_law : Array (Option Value)} {f_d_law : Addr}
    (g_e_InvalidText : PySem.W.nsIn K mainGlobals "InvalidText" = some (some (.ref C_InvalidText)))
    (g_e_InvalidSigns : PySem.W.nsIn K mainGlobals "InvalidSigns" = some (some (.ref C_InvalidSigns)))
    (g_m_UnsaidError : PySem.W.nsIn K mainGlobals "UnsaidError" = some (some (.ref C_UnsaidError)))
    (g_g_FIGURES : PySem.W.nsIn K mainGlobals "FIGURES" = some (some (.int 4 t_FIGURES)))
    (g_g_MOST_SIGNS : PySem.W.nsIn K mainGlobals "MOST_SIGNS" = some (some (.int 9999 t_MOST_SIGNS)))
    (g_g_END : PySem.W.nsIn K mainGlobals "END" = some (some (.str "." t_END)))
    (a_x_InvalidText : PySem.W.findIn K (.ref C_InvalidText) "__init__" = some (some (.ref f_x_InvalidText)))
    (a_x_InvalidSigns : PySem.W.findIn K (.ref C_InvalidSigns) "__init__" = some (some (.ref f_x_InvalidSigns)))
    (a_d_is_signs : PySem.W.nsIn K mainGlobals "is_signs" = some (some (.ref f_d_is_signs)))
    (a_d_framed : PySem.W.nsIn K mainGlobals "framed" = some (some (.ref f_d_framed)))
    (a_d_frames_in : PySem.W.nsIn K mainGlobals "frames_in" = some (some (.ref f_d_frames_in)))
    (a_d_frame_end : PySem.W.nsIn K mainGlobals "_frame_end" = some (some (.ref f_d_frame_end)))
    (a_d_l_cell : PySem.W.nsIn K mainGlobals "_law_cell" = some (some (.ref f_d_l_cell)))
    (a_d_l_box : PySem.W.nsIn K mainGlobals "_law_box" = some (some (.ref f_d_l_box)))
    (a_d_l_take : PySem.W.nsIn K mainGlobals "_law_take" = some (some (.ref f_d_l_take)))
    (a_d_l_alphabet : PySem.W.nsIn K mainGlobals "_law_alphabet" = some (some (.ref f_d_l_alphabet)))
    (a_d_l_frame : PySem.W.nsIn K mainGlobals "_law_frame" = some (some (.ref f_d_l_frame)))
    (a_d_l_text : PySem.W.nsIn K mainGlobals "_law_text" = some (some (.ref f_d_l_text)))
    (a_d_l_texts : PySem.W.nsIn K mainGlobals "_law_texts" = some (some (.ref f_d_l_texts)))
    (a_d_l_read : PySem.W.nsIn K mainGlobals "_law_read" = some (some (.ref f_d_l_read)))
    (a_d_l_equal : PySem.W.nsIn K mainGlobals "_law_equal" = some (some (.ref f_d_l_equal)))
    (a_d_l_told : PySem.W.nsIn K mainGlobals "_law_told" = some (some (.ref f_d_l_told)))
    (a_d_l_ends : PySem.W.nsIn K mainGlobals "_law_ends" = some (some (.ref f_d_l_ends)))
    (a_d_l_cuts : PySem.W.nsIn K mainGlobals "_law_cuts" = some (some (.ref f_d_l_cuts)))
    (a_d_l_cut_right : PySem.W.nsIn K mainGlobals "_law_cut_right" = some (some (.ref f_d_l_cut_right)))
    (a_d_l_spoilt : PySem.W.nsIn K mainGlobals "_law_spoilt" = some (some (.ref f_d_l_spoilt)))
    (a_d_l_spoilt_right : PySem.W.nsIn K mainGlobals "_law_spoilt_right" = some (some (.ref f_d_l_spoilt_right)))
    (a_d_l_refused : PySem.W.nsIn K mainGlobals "_law_refused" = some (some (.ref f_d_l_refused)))
    (a_d_l_odd : PySem.W.nsIn K mainGlobals "_law_odd" = some (some (.ref f_d_l_odd)))
    (a_d_l_doors : PySem.W.nsIn K mainGlobals "_law_doors" = some (some (.ref f_d_l_doors)))
    (a_d_l_many_right : PySem.W.nsIn K mainGlobals "_law_many_right" = some (some (.ref f_d_l_many_right)))
    (a_d_l_right : PySem.W.nsIn K mainGlobals "_law_right" = some (some (.ref f_d_l_right)))
    (a_d_law : PySem.W.nsIn K mainGlobals "law" = some (some (.ref f_d_law)))
    (l_x_InvalidText : K.lookup f_x_InvalidText = some ⟨oc_x_InvalidText, od_x_InvalidText, .func (PySem.W.fnOf "__init__" "InvalidText.__init__" (defArgs s_InvalidText_init) (defBody s_InvalidText_init) (defScope s_InvalidText_init) .none kV_x_InvalidText dc_x_InvalidText pm_x_InvalidText an_x_InvalidText cd_x_InvalidText ct_x_InvalidText), sl_x_InvalidText⟩)
    (l_x_InvalidSigns : K.lookup f_x_InvalidSigns = some ⟨oc_x_InvalidSigns, od_x_InvalidSigns, .func (PySem.W.fnOf "__init__" "InvalidSigns.__init__" (defArgs s_InvalidSigns_init) (defBody s_InvalidSigns_init) (defScope s_InvalidSigns_init) .none kV_x_InvalidSigns dc_x_InvalidSigns pm_x_InvalidSigns an_x_InvalidSigns cd_x_InvalidSigns ct_x_InvalidSigns), sl_x_InvalidSigns⟩)
    (l_d_is_signs : K.lookup f_d_is_signs = some ⟨oc_d_is_signs, od_d_is_signs, .func (PySem.W.fnOf "is_signs" "is_signs" (defArgs s_is_signs) (defBody s_is_signs) (defScope s_is_signs) .none kV_d_is_signs dc_d_is_signs pm_d_is_signs an_d_is_signs cd_d_is_signs ct_d_is_signs), sl_d_is_signs⟩)
    (l_d_framed : K.lookup f_d_framed = some ⟨oc_d_framed, od_d_framed, .func (PySem.W.fnOf "framed" "framed" (defArgs s_framed) (defBody s_framed) (defScope s_framed) .none kV_d_framed dc_d_framed pm_d_framed an_d_framed cd_d_framed ct_d_framed), sl_d_framed⟩)
    (l_d_frames_in : K.lookup f_d_frames_in = some ⟨oc_d_frames_in, od_d_frames_in, .func (PySem.W.fnOf "frames_in" "frames_in" (defArgs s_frames_in) (defBody s_frames_in) (defScope s_frames_in) .none kV_d_frames_in dc_d_frames_in pm_d_frames_in an_d_frames_in cd_d_frames_in ct_d_frames_in), sl_d_frames_in⟩)
    (l_d_frame_end : K.lookup f_d_frame_end = some ⟨oc_d_frame_end, od_d_frame_end, .func (PySem.W.fnOf "_frame_end" "_frame_end" (defArgs s_frame_end) (defBody s_frame_end) (defScope s_frame_end) .none kV_d_frame_end dc_d_frame_end pm_d_frame_end an_d_frame_end cd_d_frame_end ct_d_frame_end), sl_d_frame_end⟩)
    (l_d_l_cell : K.lookup f_d_l_cell = some ⟨oc_d_l_cell, od_d_l_cell, .func (PySem.W.fnOf "_law_cell" "_law_cell" (defArgs s_l_cell) (defBody s_l_cell) (defScope s_l_cell) .none kV_d_l_cell dc_d_l_cell pm_d_l_cell an_d_l_cell cd_d_l_cell ct_d_l_cell), sl_d_l_cell⟩)
    (l_d_l_box : K.lookup f_d_l_box = some ⟨oc_d_l_box, od_d_l_box, .func (PySem.W.fnOf "_law_box" "_law_box" (defArgs s_l_box) (defBody s_l_box) (defScope s_l_box) .none kV_d_l_box dc_d_l_box pm_d_l_box an_d_l_box cd_d_l_box ct_d_l_box), sl_d_l_box⟩)
    (l_d_l_take : K.lookup f_d_l_take = some ⟨oc_d_l_take, od_d_l_take, .func (PySem.W.fnOf "_law_take" "_law_take" (defArgs s_l_take) (defBody s_l_take) (defScope s_l_take) .none kV_d_l_take dc_d_l_take pm_d_l_take an_d_l_take cd_d_l_take ct_d_l_take), sl_d_l_take⟩)
    (l_d_l_alphabet : K.lookup f_d_l_alphabet = some ⟨oc_d_l_alphabet, od_d_l_alphabet, .func (PySem.W.fnOf "_law_alphabet" "_law_alphabet" (defArgs s_l_alphabet) (defBody s_l_alphabet) (defScope s_l_alphabet) .none kV_d_l_alphabet dc_d_l_alphabet pm_d_l_alphabet an_d_l_alphabet cd_d_l_alphabet ct_d_l_alphabet), sl_d_l_alphabet⟩)
    (l_d_l_frame : K.lookup f_d_l_frame = some ⟨oc_d_l_frame, od_d_l_frame, .func (PySem.W.fnOf "_law_frame" "_law_frame" (defArgs s_l_frame) (defBody s_l_frame) (defScope s_l_frame) .none kV_d_l_frame dc_d_l_frame pm_d_l_frame an_d_l_frame cd_d_l_frame ct_d_l_frame), sl_d_l_frame⟩)
    (l_d_l_text : K.lookup f_d_l_text = some ⟨oc_d_l_text, od_d_l_text, .func (PySem.W.fnOf "_law_text" "_law_text" (defArgs s_l_text) (defBody s_l_text) (defScope s_l_text) .none kV_d_l_text dc_d_l_text pm_d_l_text an_d_l_text cd_d_l_text ct_d_l_text), sl_d_l_text⟩)
    (l_d_l_texts : K.lookup f_d_l_texts = some ⟨oc_d_l_texts, od_d_l_texts, .func (PySem.W.fnOf "_law_texts" "_law_texts" (defArgs s_l_texts) (defBody s_l_texts) (defScope s_l_texts) .none kV_d_l_texts dc_d_l_texts pm_d_l_texts an_d_l_texts cd_d_l_texts ct_d_l_texts), sl_d_l_texts⟩)
    (l_d_l_read : K.lookup f_d_l_read = some ⟨oc_d_l_read, od_d_l_read, .func (PySem.W.fnOf "_law_read" "_law_read" (defArgs s_l_read) (defBody s_l_read) (defScope s_l_read) .none kV_d_l_read dc_d_l_read pm_d_l_read an_d_l_read cd_d_l_read ct_d_l_read), sl_d_l_read⟩)
    (l_d_l_equal : K.lookup f_d_l_equal = some ⟨oc_d_l_equal, od_d_l_equal, .func (PySem.W.fnOf "_law_equal" "_law_equal" (defArgs s_l_equal) (defBody s_l_equal) (defScope s_l_equal) .none kV_d_l_equal dc_d_l_equal pm_d_l_equal an_d_l_equal cd_d_l_equal ct_d_l_equal), sl_d_l_equal⟩)
    (l_d_l_told : K.lookup f_d_l_told = some ⟨oc_d_l_told, od_d_l_told, .func (PySem.W.fnOf "_law_told" "_law_told" (defArgs s_l_told) (defBody s_l_told) (defScope s_l_told) .none kV_d_l_told dc_d_l_told pm_d_l_told an_d_l_told cd_d_l_told ct_d_l_told), sl_d_l_told⟩)
    (l_d_l_ends : K.lookup f_d_l_ends = some ⟨oc_d_l_ends, od_d_l_ends, .func (PySem.W.fnOf "_law_ends" "_law_ends" (defArgs s_l_ends) (defBody s_l_ends) (defScope s_l_ends) .none kV_d_l_ends dc_d_l_ends pm_d_l_ends an_d_l_ends cd_d_l_ends ct_d_l_ends), sl_d_l_ends⟩)
    (l_d_l_cuts : K.lookup f_d_l_cuts = some ⟨oc_d_l_cuts, od_d_l_cuts, .func (PySem.W.fnOf "_law_cuts" "_law_cuts" (defArgs s_l_cuts) (defBody s_l_cuts) (defScope s_l_cuts) .none kV_d_l_cuts dc_d_l_cuts pm_d_l_cuts an_d_l_cuts cd_d_l_cuts ct_d_l_cuts), sl_d_l_cuts⟩)
    (l_d_l_cut_right : K.lookup f_d_l_cut_right = some ⟨oc_d_l_cut_right, od_d_l_cut_right, .func (PySem.W.fnOf "_law_cut_right" "_law_cut_right" (defArgs s_l_cut_right) (defBody s_l_cut_right) (defScope s_l_cut_right) .none kV_d_l_cut_right dc_d_l_cut_right pm_d_l_cut_right an_d_l_cut_right cd_d_l_cut_right ct_d_l_cut_right), sl_d_l_cut_right⟩)
    (l_d_l_spoilt : K.lookup f_d_l_spoilt = some ⟨oc_d_l_spoilt, od_d_l_spoilt, .func (PySem.W.fnOf "_law_spoilt" "_law_spoilt" (defArgs s_l_spoilt) (defBody s_l_spoilt) (defScope s_l_spoilt) .none kV_d_l_spoilt dc_d_l_spoilt pm_d_l_spoilt an_d_l_spoilt cd_d_l_spoilt ct_d_l_spoilt), sl_d_l_spoilt⟩)
    (l_d_l_spoilt_right : K.lookup f_d_l_spoilt_right = some ⟨oc_d_l_spoilt_right, od_d_l_spoilt_right, .func (PySem.W.fnOf "_law_spoilt_right" "_law_spoilt_right" (defArgs s_l_spoilt_right) (defBody s_l_spoilt_right) (defScope s_l_spoilt_right) .none kV_d_l_spoilt_right dc_d_l_spoilt_right pm_d_l_spoilt_right an_d_l_spoilt_right cd_d_l_spoilt_right ct_d_l_spoilt_right), sl_d_l_spoilt_right⟩)
    (l_d_l_refused : K.lookup f_d_l_refused = some ⟨oc_d_l_refused, od_d_l_refused, .func (PySem.W.fnOf "_law_refused" "_law_refused" (defArgs s_l_refused) (defBody s_l_refused) (defScope s_l_refused) .none kV_d_l_refused dc_d_l_refused pm_d_l_refused an_d_l_refused cd_d_l_refused ct_d_l_refused), sl_d_l_refused⟩)
    (l_d_l_odd : K.lookup f_d_l_odd = some ⟨oc_d_l_odd, od_d_l_odd, .func (PySem.W.fnOf "_law_odd" "_law_odd" (defArgs s_l_odd) (defBody s_l_odd) (defScope s_l_odd) .none kV_d_l_odd dc_d_l_odd pm_d_l_odd an_d_l_odd cd_d_l_odd ct_d_l_odd), sl_d_l_odd⟩)
    (l_d_l_doors : K.lookup f_d_l_doors = some ⟨oc_d_l_doors, od_d_l_doors, .func (PySem.W.fnOf "_law_doors" "_law_doors" (defArgs s_l_doors) (defBody s_l_doors) (defScope s_l_doors) .none kV_d_l_doors dc_d_l_doors pm_d_l_doors an_d_l_doors cd_d_l_doors ct_d_l_doors), sl_d_l_doors⟩)
    (l_d_l_many_right : K.lookup f_d_l_many_right = some ⟨oc_d_l_many_right, od_d_l_many_right, .func (PySem.W.fnOf "_law_many_right" "_law_many_right" (defArgs s_l_many_right) (defBody s_l_many_right) (defScope s_l_many_right) .none kV_d_l_many_right dc_d_l_many_right pm_d_l_many_right an_d_l_many_right cd_d_l_many_right ct_d_l_many_right), sl_d_l_many_right⟩)
    (l_d_l_right : K.lookup f_d_l_right = some ⟨oc_d_l_right, od_d_l_right, .func (PySem.W.fnOf "_law_right" "_law_right" (defArgs s_l_right) (defBody s_l_right) (defScope s_l_right) .none kV_d_l_right dc_d_l_right pm_d_l_right an_d_l_right cd_d_l_right ct_d_l_right), sl_d_l_right⟩)
    (l_d_law : K.lookup f_d_law = some ⟨oc_d_law, od_d_law, .func (PySem.W.fnOf "law" "law" (defArgs s_law) (defBody s_law) (defScope s_law) .none kV_d_law dc_d_law pm_d_law an_d_law cd_d_law ct_d_law), sl_d_law⟩)
    (xl_e_InvalidText : K.lookup C_InvalidText = some (excClassObj nm_e_InvalidText q_e_InvalidText C_InvalidText N_e_InvalidText bs_e_InvalidText bm_e_InvalidText true sn_e_InvalidText sub_e_InvalidText ab_e_InvalidText col_e_InvalidText dd_e_InvalidText k0_e_InvalidText k1_e_InvalidText k2_e_InvalidText k3_e_InvalidText k5_e_InvalidText "ValueError.__new__"))
    (xl_e_InvalidSigns : K.lookup C_InvalidSigns = some (excClassObj nm_e_InvalidSigns q_e_InvalidSigns C_InvalidSigns N_e_InvalidSigns bs_e_InvalidSigns bm_e_InvalidSigns true sn_e_InvalidSigns sub_e_InvalidSigns ab_e_InvalidSigns col_e_InvalidSigns dd_e_InvalidSigns k0_e_InvalidSigns k1_e_InvalidSigns k2_e_InvalidSigns k3_e_InvalidSigns k5_e_InvalidSigns "ValueError.__new__"))
    (c_x_InvalidText : PySem.W.codeIn K cd_x_InvalidText "InvalidText.__init__" = true)
    (kp_x_InvalidText : PySem.W.keepIn K (.ref f_x_InvalidText) = true)
    (c_x_InvalidSigns : PySem.W.codeIn K cd_x_InvalidSigns "InvalidSigns.__init__" = true)
    (kp_x_InvalidSigns : PySem.W.keepIn K (.ref f_x_InvalidSigns) = true)
    (rv_e_InvalidText : PySem.HandSPX.refsVE bm_e_InvalidText = true)
    (sa_e_InvalidText : PySem.W.findIn K (.ref C_InvalidText) "__setattr__" = some (some (.builtin "object.__setattr__")))
    (eb_C_InvalidText : PySem.W.subIn K (.ref C_InvalidText) (.type "BaseException") = some true)
    (ty_C_InvalidText : PySem.W.typeIn K (.ref C_InvalidText) = some (.type "type"))
    (kc_C_InvalidText : PySem.W.keepIn K (.ref C_InvalidText) = true)
    (ti_e_InvalidText : PySem.W.typeIn K (.ref f_x_InvalidText) = some (.type "function"))
    (nf_e_InvalidText : PySem.W.findIn K (.ref C_InvalidText) "given" = some none)
    (ga_e_InvalidText : PySem.W.findIn K (.ref C_InvalidText) "__getattribute__" = some (some (.builtin "BaseException.__getattribute__")))
    (gt_e_InvalidText : PySem.W.findIn K (.ref C_InvalidText) "__getattr__" = some none)
    (hd_C_InvalidText : PySem.W.hasDictIn K C_InvalidText = true)
    (ncl_e_InvalidText : PySem.W.findIn K (.ref C_InvalidText) "__class__" = some (some (.builtin "object.__class__")))
    (nsp : PySem.W.specialIn K (.builtin "object.__class__") "__get__" = some (some (.builtin "getset_descriptor.__get__")))
    (ntk : PySem.W.takesIn K (.builtin "object.__class__") = some true)
    (nmo_e_InvalidText : PySem.W.mroIn K C_InvalidText (.type "object") = some true)
    (rv_e_InvalidSigns : PySem.HandSPX.refsVE bm_e_InvalidSigns = true)
    (sa_e_InvalidSigns : PySem.W.findIn K (.ref C_InvalidSigns) "__setattr__" = some (some (.builtin "object.__setattr__")))
    (eb_C_InvalidSigns : PySem.W.subIn K (.ref C_InvalidSigns) (.type "BaseException") = some true)
    (ty_C_InvalidSigns : PySem.W.typeIn K (.ref C_InvalidSigns) = some (.type "type"))
    (kc_C_InvalidSigns : PySem.W.keepIn K (.ref C_InvalidSigns) = true)
    (ti_e_InvalidSigns : PySem.W.typeIn K (.ref f_x_InvalidSigns) = some (.type "function"))
    (nf_e_InvalidSigns : PySem.W.findIn K (.ref C_InvalidSigns) "given" = some none)
    (ga_e_InvalidSigns : PySem.W.findIn K (.ref C_InvalidSigns) "__getattribute__" = some (some (.builtin "BaseException.__getattribute__")))
    (gt_e_InvalidSigns : PySem.W.findIn K (.ref C_InvalidSigns) "__getattr__" = some none)
    (hd_C_InvalidSigns : PySem.W.hasDictIn K C_InvalidSigns = true)
    (ncl_e_InvalidSigns : PySem.W.findIn K (.ref C_InvalidSigns) "__class__" = some (some (.builtin "object.__class__")))
    (nmo_e_InvalidSigns : PySem.W.mroIn K C_InvalidSigns (.type "object") = some true)
    (su_C_InvalidText_C_InvalidText : PySem.W.subIn K (.ref C_InvalidText) (.ref C_InvalidText) = some true)
    (su_C_InvalidSigns_C_InvalidText : PySem.W.subIn K (.ref C_InvalidSigns) (.ref C_InvalidText) = some false)
    (su_C_InvalidSigns_C_InvalidSigns : PySem.W.subIn K (.ref C_InvalidSigns) (.ref C_InvalidSigns) = some true)
    (su_C_InvalidText_C_UnsaidError : PySem.W.subIn K (.ref C_InvalidText) (.ref C_UnsaidError) = some true)
    (hd_C_UnsaidError : PySem.W.hasDictIn K C_UnsaidError = true)
    (ty_C_UnsaidError : PySem.W.typeIn K (.ref C_UnsaidError) = some (.type "type"))
    (su_C_InvalidSigns_C_UnsaidError : PySem.W.subIn K (.ref C_InvalidSigns) (.ref C_UnsaidError) = some true)
    (z_n_abs : PySem.W.nsIn K mainGlobals "abs" = some none)
    (z_n_int : PySem.W.nsIn K mainGlobals "int" = some none)
    (z_n_isinstance : PySem.W.nsIn K mainGlobals "isinstance" = some none)
    (z_n_len : PySem.W.nsIn K mainGlobals "len" = some none)
    (z_n_list : PySem.W.nsIn K mainGlobals "list" = some none)
    (z_n_max : PySem.W.nsIn K mainGlobals "max" = some none)
    (z_n_min : PySem.W.nsIn K mainGlobals "min" = some none)
    (z_n_range : PySem.W.nsIn K mainGlobals "range" = some none)
    (z_n_repr : PySem.W.nsIn K mainGlobals "repr" = some none)
    (z_n_sorted : PySem.W.nsIn K mainGlobals "sorted" = some none)
    (z_n_str : PySem.W.nsIn K mainGlobals "str" = some none)
    (z_n_sum : PySem.W.nsIn K mainGlobals "sum" = some none)
    (c_d_is_signs : PySem.W.codeIn K cd_d_is_signs "is_signs" = true)
    (kp_d_is_signs : PySem.W.keepIn K (.ref f_d_is_signs) = true)
    (c_d_framed : PySem.W.codeIn K cd_d_framed "framed" = true)
    (kp_d_framed : PySem.W.keepIn K (.ref f_d_framed) = true)
    (c_d_frames_in : PySem.W.codeIn K cd_d_frames_in "frames_in" = true)
    (kp_d_frames_in : PySem.W.keepIn K (.ref f_d_frames_in) = true)
    (c_d_frame_end : PySem.W.codeIn K cd_d_frame_end "_frame_end" = true)
    (kp_d_frame_end : PySem.W.keepIn K (.ref f_d_frame_end) = true)
    (c_d_l_cell : PySem.W.codeIn K cd_d_l_cell "_law_cell" = true)
    (kp_d_l_cell : PySem.W.keepIn K (.ref f_d_l_cell) = true)
    (c_d_l_box : PySem.W.codeIn K cd_d_l_box "_law_box" = true)
    (kp_d_l_box : PySem.W.keepIn K (.ref f_d_l_box) = true)
    (c_d_l_take : PySem.W.codeIn K cd_d_l_take "_law_take" = true)
    (kp_d_l_take : PySem.W.keepIn K (.ref f_d_l_take) = true)
    (c_d_l_alphabet : PySem.W.codeIn K cd_d_l_alphabet "_law_alphabet" = true)
    (kp_d_l_alphabet : PySem.W.keepIn K (.ref f_d_l_alphabet) = true)
    (c_d_l_frame : PySem.W.codeIn K cd_d_l_frame "_law_frame" = true)
    (kp_d_l_frame : PySem.W.keepIn K (.ref f_d_l_frame) = true)
    (c_d_l_text : PySem.W.codeIn K cd_d_l_text "_law_text" = true)
    (kp_d_l_text : PySem.W.keepIn K (.ref f_d_l_text) = true)
    (c_d_l_texts : PySem.W.codeIn K cd_d_l_texts "_law_texts" = true)
    (kp_d_l_texts : PySem.W.keepIn K (.ref f_d_l_texts) = true)
    (c_d_l_read : PySem.W.codeIn K cd_d_l_read "_law_read" = true)
    (kp_d_l_read : PySem.W.keepIn K (.ref f_d_l_read) = true)
    (c_d_l_equal : PySem.W.codeIn K cd_d_l_equal "_law_equal" = true)
    (kp_d_l_equal : PySem.W.keepIn K (.ref f_d_l_equal) = true)
    (c_d_l_told : PySem.W.codeIn K cd_d_l_told "_law_told" = true)
    (kp_d_l_told : PySem.W.keepIn K (.ref f_d_l_told) = true)
    (c_d_l_ends : PySem.W.codeIn K cd_d_l_ends "_law_ends" = true)
    (kp_d_l_ends : PySem.W.keepIn K (.ref f_d_l_ends) = true)
    (c_d_l_cuts : PySem.W.codeIn K cd_d_l_cuts "_law_cuts" = true)
    (kp_d_l_cuts : PySem.W.keepIn K (.ref f_d_l_cuts) = true)
    (c_d_l_cut_right : PySem.W.codeIn K cd_d_l_cut_right "_law_cut_right" = true)
    (kp_d_l_cut_right : PySem.W.keepIn K (.ref f_d_l_cut_right) = true)
    (c_d_l_spoilt : PySem.W.codeIn K cd_d_l_spoilt "_law_spoilt" = true)
    (kp_d_l_spoilt : PySem.W.keepIn K (.ref f_d_l_spoilt) = true)
    (c_d_l_spoilt_right : PySem.W.codeIn K cd_d_l_spoilt_right "_law_spoilt_right" = true)
    (kp_d_l_spoilt_right : PySem.W.keepIn K (.ref f_d_l_spoilt_right) = true)
    (c_d_l_refused : PySem.W.codeIn K cd_d_l_refused "_law_refused" = true)
    (kp_d_l_refused : PySem.W.keepIn K (.ref f_d_l_refused) = true)
    (c_d_l_odd : PySem.W.codeIn K cd_d_l_odd "_law_odd" = true)
    (kp_d_l_odd : PySem.W.keepIn K (.ref f_d_l_odd) = true)
    (c_d_l_doors : PySem.W.codeIn K cd_d_l_doors "_law_doors" = true)
    (kp_d_l_doors : PySem.W.keepIn K (.ref f_d_l_doors) = true)
    (c_d_l_many_right : PySem.W.codeIn K cd_d_l_many_right "_law_many_right" = true)
    (kp_d_l_many_right : PySem.W.keepIn K (.ref f_d_l_many_right) = true)
    (c_d_l_right : PySem.W.codeIn K cd_d_l_right "_law_right" = true)
    (kp_d_l_right : PySem.W.keepIn K (.ref f_d_l_right) = true)
    (c_d_law : PySem.W.codeIn K cd_d_law "law" = true)
    (kp_d_law : PySem.W.keepIn K (.ref f_d_law) = true) :
    ∃ fd : FuncData, (∀ (s : Shared) (v : Value), BindsTo s fd ⟨[v], []⟩ [("_law_script", v)]) ∧ ∀ base : Heap, K.In base → base.Ns mainGlobals mg → FnG P w K mg base 7 fa fd ["_law_script"] (spLaw K) := by
  have e := hfa.symm.trans (mg_of X G a_d_law)
  cases e
  have F_x_InvalidText := fun_mk (st := s_InvalidText_init) l_x_InvalidText c_x_InvalidText kp_x_InvalidText
  have b_x_InvalidText := F_x_InvalidText.binds (ps := ["self", "given"]) fun _ _ _ _ _ _ us hl => match us, hl with | [_, _], _ => rfl
  have F_x_InvalidSigns := fun_mk (st := s_InvalidSigns_init) l_x_InvalidSigns c_x_InvalidSigns kp_x_InvalidSigns
  have b_x_InvalidSigns := F_x_InvalidSigns.binds (ps := ["self", "given"]) fun _ _ _ _ _ _ us hl => match us, hl with | [_, _], _ => rfl
  have F_d_is_signs := fun_mk (st := s_is_signs) l_d_is_signs c_d_is_signs kp_d_is_signs
  have F_d_framed := fun_mk (st := s_framed) l_d_framed c_d_framed kp_d_framed
  have F_d_frames_in := fun_mk (st := s_frames_in) l_d_frames_in c_d_frames_in kp_d_frames_in
  have F_d_frame_end := fun_mk (st := s_frame_end) l_d_frame_end c_d_frame_end kp_d_frame_end
  have F_d_l_cell := fun_mk (st := s_l_cell) l_d_l_cell c_d_l_cell kp_d_l_cell
  have F_d_l_box := fun_mk (st := s_l_box) l_d_l_box c_d_l_box kp_d_l_box
  have F_d_l_take := fun_mk (st := s_l_take) l_d_l_take c_d_l_take kp_d_l_take
  have F_d_l_alphabet := fun_mk (st := s_l_alphabet) l_d_l_alphabet c_d_l_alphabet kp_d_l_alphabet
  have F_d_l_frame := fun_mk (st := s_l_frame) l_d_l_frame c_d_l_frame kp_d_l_frame
  have F_d_l_text := fun_mk (st := s_l_text) l_d_l_text c_d_l_text kp_d_l_text
  have F_d_l_texts := fun_mk (st := s_l_texts) l_d_l_texts c_d_l_texts kp_d_l_texts
  have F_d_l_read := fun_mk (st := s_l_read) l_d_l_read c_d_l_read kp_d_l_read
  have F_d_l_equal := fun_mk (st := s_l_equal) l_d_l_equal c_d_l_equal kp_d_l_equal
  have F_d_l_told := fun_mk (st := s_l_told) l_d_l_told c_d_l_told kp_d_l_told
  have F_d_l_ends := fun_mk (st := s_l_ends) l_d_l_ends c_d_l_ends kp_d_l_ends
  have F_d_l_cuts := fun_mk (st := s_l_cuts) l_d_l_cuts c_d_l_cuts kp_d_l_cuts
  have F_d_l_cut_right := fun_mk (st := s_l_cut_right) l_d_l_cut_right c_d_l_cut_right kp_d_l_cut_right
  have F_d_l_spoilt := fun_mk (st := s_l_spoilt) l_d_l_spoilt c_d_l_spoilt kp_d_l_spoilt
  have F_d_l_spoilt_right := fun_mk (st := s_l_spoilt_right) l_d_l_spoilt_right c_d_l_spoilt_right kp_d_l_spoilt_right
  have F_d_l_refused := fun_mk (st := s_l_refused) l_d_l_refused c_d_l_refused kp_d_l_refused
  have F_d_l_odd := fun_mk (st := s_l_odd) l_d_l_odd c_d_l_odd kp_d_l_odd
  have F_d_l_doors := fun_mk (st := s_l_doors) l_d_l_doors c_d_l_doors kp_d_l_doors
  have F_d_l_many_right := fun_mk (st := s_l_many_right) l_d_l_many_right c_d_l_many_right kp_d_l_many_right
  have F_d_l_right := fun_mk (st := s_l_right) l_d_l_right c_d_l_right kp_d_l_right
  have F_d_law := fun_mk (st := s_law) l_d_law c_d_law kp_d_law
  let T : Tx K mg := {
    C_InvalidText := C_InvalidText,
    C_InvalidSigns := C_InvalidSigns,
    C_UnsaidError := C_UnsaidError,
    x_InvalidText := ⟨f_x_InvalidText, _, F_x_InvalidText, b_x_InvalidText⟩,
    x_InvalidSigns := ⟨f_x_InvalidSigns, _, F_x_InvalidSigns, b_x_InvalidSigns⟩,
    e_InvalidText := ⟨mg_of X G g_e_InvalidText, ⟨⟨_, _, _, _, _, _, _, _, _, _, _, _, _, _, _, xl_e_InvalidText, rv_e_InvalidText⟩, sa_e_InvalidText, eb_C_InvalidText, ty_C_InvalidText, kc_C_InvalidText⟩, a_x_InvalidText, ti_e_InvalidText, nf_e_InvalidText, ⟨ga_e_InvalidText, gt_e_InvalidText, eb_C_InvalidText, hd_C_InvalidText, ncl_e_InvalidText, nsp, ntk, nmo_e_InvalidText⟩⟩,
    e_InvalidSigns := ⟨mg_of X G g_e_InvalidSigns, ⟨⟨_, _, _, _, _, _, _, _, _, _, _, _, _, _, _, xl_e_InvalidSigns, rv_e_InvalidSigns⟩, sa_e_InvalidSigns, eb_C_InvalidSigns, ty_C_InvalidSigns, kc_C_InvalidSigns⟩, a_x_InvalidSigns, ti_e_InvalidSigns, nf_e_InvalidSigns, ⟨ga_e_InvalidSigns, gt_e_InvalidSigns, eb_C_InvalidSigns, hd_C_InvalidSigns, ncl_e_InvalidSigns, nsp, ntk, nmo_e_InvalidSigns⟩⟩,
    m_InvalidText := mg_of X G g_e_InvalidText,
    m_InvalidSigns := mg_of X G g_e_InvalidSigns,
    m_UnsaidError := mg_of X G g_m_UnsaidError,
    x_InvalidText_InvalidText := PySem.W.exm_ref eb_C_InvalidText hd_C_InvalidText ty_C_InvalidText su_C_InvalidText_C_InvalidText,
    x_InvalidSigns_InvalidText := PySem.W.exm_ref eb_C_InvalidText hd_C_InvalidText ty_C_InvalidText su_C_InvalidSigns_C_InvalidText,
    x_InvalidSigns_InvalidSigns := PySem.W.exm_ref eb_C_InvalidSigns hd_C_InvalidSigns ty_C_InvalidSigns su_C_InvalidSigns_C_InvalidSigns,
    i_InvalidText_UnsaidError := PySem.W.kit_ref hd_C_UnsaidError ty_C_UnsaidError su_C_InvalidText_C_UnsaidError,
    i_InvalidSigns_UnsaidError := PySem.W.kit_ref hd_C_UnsaidError ty_C_UnsaidError su_C_InvalidSigns_C_UnsaidError,
    t_FIGURES := t_FIGURES,
    g_FIGURES := mg_of X G g_g_FIGURES,
    t_MOST_SIGNS := t_MOST_SIGNS,
    g_MOST_SIGNS := mg_of X G g_g_MOST_SIGNS,
    t_END := t_END,
    g_END := mg_of X G g_g_END,
    n_abs := mg_none_of X G z_n_abs,
    n_int := mg_none_of X G z_n_int,
    n_isinstance := mg_none_of X G z_n_isinstance,
    n_len := mg_none_of X G z_n_len,
    n_list := mg_none_of X G z_n_list,
    n_max := mg_none_of X G z_n_max,
    n_min := mg_none_of X G z_n_min,
    n_range := mg_none_of X G z_n_range,
    n_repr := mg_none_of X G z_n_repr,
    n_sorted := mg_none_of X G z_n_sorted,
    n_str := mg_none_of X G z_n_str,
    n_sum := mg_none_of X G z_n_sum,
    d_is_signs := ⟨f_d_is_signs, _, F_d_is_signs, mg_of X G a_d_is_signs, fun us hl => match us, hl with | [_], _ => rfl, fun us ws h1 h2 => match us, ws, h1, h2 with | [], [_], _, _ => rfl⟩,
    d_framed := ⟨f_d_framed, _, F_d_framed, mg_of X G a_d_framed, fun us hl => match us, hl with | [_], _ => rfl, fun us ws h1 h2 => match us, ws, h1, h2 with | [], [_], _, _ => rfl⟩,
    d_frames_in := ⟨f_d_frames_in, _, F_d_frames_in, mg_of X G a_d_frames_in, fun us hl => match us, hl with | [_], _ => rfl, fun us ws h1 h2 => match us, ws, h1, h2 with | [], [_], _, _ => rfl⟩,
    d_frame_end := ⟨f_d_frame_end, _, F_d_frame_end, mg_of X G a_d_frame_end, fun us hl => match us, hl with | [_, _], _ => rfl, fun us ws h1 h2 => match us, ws, h1, h2 with | [], [_, _], _, _ => rfl⟩,
    d_l_cell := ⟨f_d_l_cell, _, F_d_l_cell, mg_of X G a_d_l_cell, fun us hl => match us, hl with | [_, _], _ => rfl, fun us ws h1 h2 => match us, ws, h1, h2 with | [], [_, _], _, _ => rfl⟩,
    d_l_box := ⟨f_d_l_box, _, F_d_l_box, mg_of X G a_d_l_box, fun us hl => match us, hl with | [_], _ => rfl, fun us ws h1 h2 => match us, ws, h1, h2 with | [], [_], _, _ => rfl⟩,
    d_l_take := ⟨f_d_l_take, _, F_d_l_take, mg_of X G a_d_l_take, fun us hl => match us, hl with | [_, _], _ => rfl, fun us ws h1 h2 => match us, ws, h1, h2 with | [], [_, _], _, _ => rfl⟩,
    d_l_alphabet := ⟨f_d_l_alphabet, _, F_d_l_alphabet, mg_of X G a_d_l_alphabet, fun us hl => match us, hl with | [], _ => rfl, fun us ws h1 h2 => match us, ws, h1, h2 with | [], [], _, _ => rfl⟩,
    d_l_frame := ⟨f_d_l_frame, _, F_d_l_frame, mg_of X G a_d_l_frame, fun us hl => match us, hl with | [_], _ => rfl, fun us ws h1 h2 => match us, ws, h1, h2 with | [], [_], _, _ => rfl⟩,
    d_l_text := ⟨f_d_l_text, _, F_d_l_text, mg_of X G a_d_l_text, fun us hl => match us, hl with | [_], _ => rfl, fun us ws h1 h2 => match us, ws, h1, h2 with | [], [_], _, _ => rfl⟩,
    d_l_texts := ⟨f_d_l_texts, _, F_d_l_texts, mg_of X G a_d_l_texts, fun us hl => match us, hl with | [_, _], _ => rfl, fun us ws h1 h2 => match us, ws, h1, h2 with | [], [_, _], _, _ => rfl⟩,
    d_l_read := ⟨f_d_l_read, _, F_d_l_read, mg_of X G a_d_l_read, fun us hl => match us, hl with | [_], _ => rfl, fun us ws h1 h2 => match us, ws, h1, h2 with | [], [_], _, _ => rfl⟩,
    d_l_equal := ⟨f_d_l_equal, _, F_d_l_equal, mg_of X G a_d_l_equal, fun us hl => match us, hl with | [_, _], _ => rfl, fun us ws h1 h2 => match us, ws, h1, h2 with | [], [_, _], _, _ => rfl⟩,
    d_l_told := ⟨f_d_l_told, _, F_d_l_told, mg_of X G a_d_l_told, fun us hl => match us, hl with | [_, _, _], _ => rfl, fun us ws h1 h2 => match us, ws, h1, h2 with | [], [_, _, _], _, _ => rfl⟩,
    d_l_ends := ⟨f_d_l_ends, _, F_d_l_ends, mg_of X G a_d_l_ends, fun us hl => match us, hl with | [_], _ => rfl, fun us ws h1 h2 => match us, ws, h1, h2 with | [], [_], _, _ => rfl⟩,
    d_l_cuts := ⟨f_d_l_cuts, _, F_d_l_cuts, mg_of X G a_d_l_cuts, fun us hl => match us, hl with | [_, _], _ => rfl, fun us ws h1 h2 => match us, ws, h1, h2 with | [], [_, _], _, _ => rfl⟩,
    d_l_cut_right := ⟨f_d_l_cut_right, _, F_d_l_cut_right, mg_of X G a_d_l_cut_right, fun us hl => match us, hl with | [_, _, _], _ => rfl, fun us ws h1 h2 => match us, ws, h1, h2 with | [], [_, _, _], _, _ => rfl⟩,
    d_l_spoilt := ⟨f_d_l_spoilt, _, F_d_l_spoilt, mg_of X G a_d_l_spoilt, fun us hl => match us, hl with | [_, _, _, _], _ => rfl, fun us ws h1 h2 => match us, ws, h1, h2 with | [], [_, _, _, _], _, _ => rfl⟩,
    d_l_spoilt_right := ⟨f_d_l_spoilt_right, _, F_d_l_spoilt_right, mg_of X G a_d_l_spoilt_right, fun us hl => match us, hl with | [_, _, _], _ => rfl, fun us ws h1 h2 => match us, ws, h1, h2 with | [], [_, _, _], _, _ => rfl⟩,
    d_l_refused := ⟨f_d_l_refused, _, F_d_l_refused, mg_of X G a_d_l_refused, fun us hl => match us, hl with | [_, _, _], _ => rfl, fun us ws h1 h2 => match us, ws, h1, h2 with | [], [_, _, _], _, _ => rfl⟩,
    d_l_odd := ⟨f_d_l_odd, _, F_d_l_odd, mg_of X G a_d_l_odd, fun us hl => match us, hl with | [_, _], _ => rfl, fun us ws h1 h2 => match us, ws, h1, h2 with | [], [_, _], _, _ => rfl⟩,
    d_l_doors := ⟨f_d_l_doors, _, F_d_l_doors, mg_of X G a_d_l_doors, fun us hl => match us, hl with | [_, _, _], _ => rfl, fun us ws h1 h2 => match us, ws, h1, h2 with | [], [_, _, _], _, _ => rfl⟩,
    d_l_many_right := ⟨f_d_l_many_right, _, F_d_l_many_right, mg_of X G a_d_l_many_right, fun us hl => match us, hl with | [_], _ => rfl, fun us ws h1 h2 => match us, ws, h1, h2 with | [], [_], _, _ => rfl⟩,
    d_l_right := ⟨f_d_l_right, _, F_d_l_right, mg_of X G a_d_l_right, fun us hl => match us, hl with | [_, _], _ => rfl, fun us ws h1 h2 => match us, ws, h1, h2 with | [], [_, _], _, _ => rfl⟩,
    d_law := ⟨fa, _, F_d_law, mg_of X G a_d_law, fun us hl => match us, hl with | [_], _ => rfl, fun us ws h1 h2 => match us, ws, h1, h2 with | [], [_], _, _ => rfl⟩ }
  exact ⟨_, fun s v => .of_eq rfl, fun base _ _ => ok_law T⟩
end K05

open PySem PySem.W PyProof.Rows
set_option maxRecDepth 100000 in
set_option maxHeartbeats 0 in
theorem PySem.Challenge.cw_neverunsaid_k05_frames_and_cuts_holds : PySem.Challenge.rw_neverunsaid_k05_frames_and_cuts.Holds := by
  w_on; o_law; k_head; (case hw => w_witness2)
  k_fill
  refine Nv.walkG (l := PySem.Challenge.rw_neverunsaid_k05_frames_and_cuts) (n := 63) (k := 7) (x := "_law_script") (sp := K05.spLaw) rfl (by decide) rfl ⟨rfl, by decide, by decide⟩ (fun w h Y => PySem.W.kIn_of Y) ?F ?S
  case F =>
    intro w mg fa h KX G hmg
    refine' K05.all_mk KX G hmg ?g_e_InvalidText ?g_e_InvalidSigns ?g_m_UnsaidError ?g_g_FIGURES ?g_g_MOST_SIGNS ?g_g_END ?a_x_InvalidText ?a_x_InvalidSigns ?a_d_is_signs ?a_d_framed ?a_d_frames_in ?a_d_frame_end ?a_d_l_cell ?a_d_l_box ?a_d_l_take ?a_d_l_alphabet ?a_d_l_frame ?a_d_l_text ?a_d_l_texts ?a_d_l_read ?a_d_l_equal ?a_d_l_told ?a_d_l_ends ?a_d_l_cuts ?a_d_l_cut_right ?a_d_l_spoilt ?a_d_l_spoilt_right ?a_d_l_refused ?a_d_l_odd ?a_d_l_doors ?a_d_l_many_right ?a_d_l_right ?a_d_law ?l_x_InvalidText ?l_x_InvalidSigns ?l_d_is_signs ?l_d_framed ?l_d_frames_in ?l_d_frame_end ?l_d_l_cell ?l_d_l_box ?l_d_l_take ?l_d_l_alphabet ?l_d_l_frame ?l_d_l_text ?l_d_l_texts ?l_d_l_read ?l_d_l_equal ?l_d_l_told ?l_d_l_ends ?l_d_l_cuts ?l_d_l_cut_right ?l_d_l_spoilt ?l_d_l_spoilt_right ?l_d_l_refused ?l_d_l_odd ?l_d_l_doors ?l_d_l_many_right ?l_d_l_right ?l_d_law ?xl_e_InvalidText ?xl_e_InvalidSigns ?c_x_InvalidText ?kp_x_InvalidText ?c_x_InvalidSigns ?kp_x_InvalidSigns ?rv_e_InvalidText ?sa_e_InvalidText ?eb_C_InvalidText ?ty_C_InvalidText ?kc_C_InvalidText ?ti_e_InvalidText ?nf_e_InvalidText ?ga_e_InvalidText ?gt_e_InvalidText ?hd_C_InvalidText ?ncl_e_InvalidText ?nsp ?ntk ?nmo_e_InvalidText ?rv_e_InvalidSigns ?sa_e_InvalidSigns ?eb_C_InvalidSigns ?ty_C_InvalidSigns ?kc_C_InvalidSigns ?ti_e_InvalidSigns ?nf_e_InvalidSigns ?ga_e_InvalidSigns ?gt_e_InvalidSigns ?hd_C_InvalidSigns ?ncl_e_InvalidSigns ?nmo_e_InvalidSigns ?su_C_InvalidText_C_InvalidText ?su_C_InvalidSigns_C_InvalidText ?su_C_InvalidSigns_C_InvalidSigns ?su_C_InvalidText_C_UnsaidError ?hd_C_UnsaidError ?ty_C_UnsaidError ?su_C_InvalidSigns_C_UnsaidError ?z_n_abs ?z_n_int ?z_n_isinstance ?z_n_len ?z_n_list ?z_n_max ?z_n_min ?z_n_range ?z_n_repr ?z_n_sorted ?z_n_str ?z_n_sum ?c_d_is_signs ?kp_d_is_signs ?c_d_framed ?kp_d_framed ?c_d_frames_in ?kp_d_frames_in ?c_d_frame_end ?kp_d_frame_end ?c_d_l_cell ?kp_d_l_cell ?c_d_l_box ?kp_d_l_box ?c_d_l_take ?kp_d_l_take ?c_d_l_alphabet ?kp_d_l_alphabet ?c_d_l_frame ?kp_d_l_frame ?c_d_l_text ?kp_d_l_text ?c_d_l_texts ?kp_d_l_texts ?c_d_l_read ?kp_d_l_read ?c_d_l_equal ?kp_d_l_equal ?c_d_l_told ?kp_d_l_told ?c_d_l_ends ?kp_d_l_ends ?c_d_l_cuts ?kp_d_l_cuts ?c_d_l_cut_right ?kp_d_l_cut_right ?c_d_l_spoilt ?kp_d_l_spoilt ?c_d_l_spoilt_right ?kp_d_l_spoilt_right ?c_d_l_refused ?kp_d_l_refused ?c_d_l_odd ?kp_d_l_odd ?c_d_l_doors ?kp_d_l_doors ?c_d_l_many_right ?kp_d_l_many_right ?c_d_l_right ?kp_d_l_right ?c_d_law ?kp_d_law
    (case g_e_InvalidText => k_is)
    (case g_e_InvalidSigns => k_is)
    (case g_m_UnsaidError => k_is)
    (case g_g_FIGURES => k_is)
    (case g_g_MOST_SIGNS => k_is)
    (case g_g_END => k_is)
    (case a_x_InvalidText => k_is)
    (case a_x_InvalidSigns => k_is)
    (case a_d_is_signs => k_is)
    (case a_d_framed => k_is)
    (case a_d_frames_in => k_is)
    (case a_d_frame_end => k_is)
    (case a_d_l_cell => k_is)
    (case a_d_l_box => k_is)
    (case a_d_l_take => k_is)
    (case a_d_l_alphabet => k_is)
    (case a_d_l_frame => k_is)
    (case a_d_l_text => k_is)
    (case a_d_l_texts => k_is)
    (case a_d_l_read => k_is)
    (case a_d_l_equal => k_is)
    (case a_d_l_told => k_is)
    (case a_d_l_ends => k_is)
    (case a_d_l_cuts => k_is)
    (case a_d_l_cut_right => k_is)
    (case a_d_l_spoilt => k_is)
    (case a_d_l_spoilt_right => k_is)
    (case a_d_l_refused => k_is)
    (case a_d_l_odd => k_is)
    (case a_d_l_doors => k_is)
    (case a_d_l_many_right => k_is)
    (case a_d_l_right => k_is)
    (case a_d_law => k_is)
    (case l_x_InvalidText => k_is)
    (case l_x_InvalidSigns => k_is)
    (case l_d_is_signs => k_is)
    (case l_d_framed => k_is)
    (case l_d_frames_in => k_is)
    (case l_d_frame_end => k_is)
    (case l_d_l_cell => k_is)
    (case l_d_l_box => k_is)
    (case l_d_l_take => k_is)
    (case l_d_l_alphabet => k_is)
    (case l_d_l_frame => k_is)
    (case l_d_l_text => k_is)
    (case l_d_l_texts => k_is)
    (case l_d_l_read => k_is)
    (case l_d_l_equal => k_is)
    (case l_d_l_told => k_is)
    (case l_d_l_ends => k_is)
    (case l_d_l_cuts => k_is)
    (case l_d_l_cut_right => k_is)
    (case l_d_l_spoilt => k_is)
    (case l_d_l_spoilt_right => k_is)
    (case l_d_l_refused => k_is)
    (case l_d_l_odd => k_is)
    (case l_d_l_doors => k_is)
    (case l_d_l_many_right => k_is)
    (case l_d_l_right => k_is)
    (case l_d_law => k_is)
    (case xl_e_InvalidText => k_is)
    (case xl_e_InvalidSigns => k_is)
    (case c_x_InvalidText => k_is)
    (case kp_x_InvalidText => k_is)
    (case c_x_InvalidSigns => k_is)
    (case kp_x_InvalidSigns => k_is)
    (case rv_e_InvalidText => decide +kernel)
    (case sa_e_InvalidText => k_is)
    (case eb_C_InvalidText => k_is)
    (case ty_C_InvalidText => k_is)
    (case kc_C_InvalidText => k_is)
    (case ti_e_InvalidText => k_is)
    (case nf_e_InvalidText => k_is)
    (case ga_e_InvalidText => k_is)
    (case gt_e_InvalidText => k_is)
    (case hd_C_InvalidText => k_is)
    (case ncl_e_InvalidText => k_is)
    (case nsp => k_is)
    (case ntk => k_is)
    (case nmo_e_InvalidText => k_is)
    (case rv_e_InvalidSigns => decide +kernel)
    (case sa_e_InvalidSigns => k_is)
    (case eb_C_InvalidSigns => k_is)
    (case ty_C_InvalidSigns => k_is)
    (case kc_C_InvalidSigns => k_is)
    (case ti_e_InvalidSigns => k_is)
    (case nf_e_InvalidSigns => k_is)
    (case ga_e_InvalidSigns => k_is)
    (case gt_e_InvalidSigns => k_is)
    (case hd_C_InvalidSigns => k_is)
    (case ncl_e_InvalidSigns => k_is)
    (case nmo_e_InvalidSigns => k_is)
    (case su_C_InvalidText_C_InvalidText => k_is)
    (case su_C_InvalidSigns_C_InvalidText => k_is)
    (case su_C_InvalidSigns_C_InvalidSigns => k_is)
    (case su_C_InvalidText_C_UnsaidError => k_is)
    (case hd_C_UnsaidError => k_is)
    (case ty_C_UnsaidError => k_is)
    (case su_C_InvalidSigns_C_UnsaidError => k_is)
    (case z_n_abs => k_is)
    (case z_n_int => k_is)
    (case z_n_isinstance => k_is)
    (case z_n_len => k_is)
    (case z_n_list => k_is)
    (case z_n_max => k_is)
    (case z_n_min => k_is)
    (case z_n_range => k_is)
    (case z_n_repr => k_is)
    (case z_n_sorted => k_is)
    (case z_n_str => k_is)
    (case z_n_sum => k_is)
    (case c_d_is_signs => k_is)
    (case kp_d_is_signs => k_is)
    (case c_d_framed => k_is)
    (case kp_d_framed => k_is)
    (case c_d_frames_in => k_is)
    (case kp_d_frames_in => k_is)
    (case c_d_frame_end => k_is)
    (case kp_d_frame_end => k_is)
    (case c_d_l_cell => k_is)
    (case kp_d_l_cell => k_is)
    (case c_d_l_box => k_is)
    (case kp_d_l_box => k_is)
    (case c_d_l_take => k_is)
    (case kp_d_l_take => k_is)
    (case c_d_l_alphabet => k_is)
    (case kp_d_l_alphabet => k_is)
    (case c_d_l_frame => k_is)
    (case kp_d_l_frame => k_is)
    (case c_d_l_text => k_is)
    (case kp_d_l_text => k_is)
    (case c_d_l_texts => k_is)
    (case kp_d_l_texts => k_is)
    (case c_d_l_read => k_is)
    (case kp_d_l_read => k_is)
    (case c_d_l_equal => k_is)
    (case kp_d_l_equal => k_is)
    (case c_d_l_told => k_is)
    (case kp_d_l_told => k_is)
    (case c_d_l_ends => k_is)
    (case kp_d_l_ends => k_is)
    (case c_d_l_cuts => k_is)
    (case kp_d_l_cuts => k_is)
    (case c_d_l_cut_right => k_is)
    (case kp_d_l_cut_right => k_is)
    (case c_d_l_spoilt => k_is)
    (case kp_d_l_spoilt => k_is)
    (case c_d_l_spoilt_right => k_is)
    (case kp_d_l_spoilt_right => k_is)
    (case c_d_l_refused => k_is)
    (case kp_d_l_refused => k_is)
    (case c_d_l_odd => k_is)
    (case kp_d_l_odd => k_is)
    (case c_d_l_doors => k_is)
    (case kp_d_l_doors => k_is)
    (case c_d_l_many_right => k_is)
    (case kp_d_l_many_right => k_is)
    (case c_d_l_right => k_is)
    (case kp_d_l_right => k_is)
    (case c_d_law => k_is)
    (case kp_d_law => k_is)
  case S => exact fun K H a ns hl hS => ⟨a, ns, rfl, hS, hl, fun _ => rfl⟩
