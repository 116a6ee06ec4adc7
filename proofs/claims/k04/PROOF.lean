import PyProof.Rows.All
import Wide.All
import OpenK.AllK
import Wide.FinOn
import HandS.ForMost
import HandS.ForExc
import HandS.IsInst
import HandS.StrMore
import HandS.Style
import HandS.Property
import HandS.Flow
import HandS.TryMany
import HandS.ExcInit
import HandS.ExcIs
import HandS.ExcField
import HandS.Defaults
import HandS.Wide
import HandS.Walk
import PySem.Challenge.RW_neverunsaid_k04_whole_disks_and_falls
set_option Elab.async false
set_option linter.all false
set_option maxRecDepth 100000
set_option maxHeartbeats 4000000
namespace Nv
open PySem PySem.Spec PyProof.Rows L2

/-- a def's promise where no repr is under way -/
structure FnG (P : Program) (w : World) (K : PySem.W.Frag) (mg : Str → Option Value) (base : Heap) (k : Nat)
    (f : Addr) (fd : FuncData) (ps : List Str) (sp : Sp) : Prop where
  len : ∀ vs H Q E, sp vs H Q E → vs.length = ps.length
  run : ∀ (A : Around) (outer : List Env) (s : Shared) (H : Hp) (args : Args) (us : List Value) (vs : List V) (Q : VK) (E : XK),
    A.guards = some [] → Room k A → Env0 P w K mg base A outer s H → BindsTo s fd args (ps.zip us) → Vals vs us →
    sp vs H Q E → codeAny (model P w) A (.call (.ref f) args) (CR (L2.CX P w) outer P w H s Q E) s

section
variable {P : Program} {w : World} {K : PySem.W.Frag} {mg : Str → Option Value} {base : Heap} {k : Nat}
    {f : Addr} {fd : FuncData} {ps : List Str} {sp : Sp}
theorem FnG.mono {j : Nat} (F : FnG P w K mg base j f fd ps sp) (h : j ≤ k) : FnG P w K mg base k f fd ps sp :=
  ⟨F.len, fun A o s H a us vs Q E hg hr => F.run A o s H a us vs Q E hg (hr.mono h)⟩
theorem FnG.imp {sp' : Sp} (F : FnG P w K mg base k f fd ps sp) (h : ∀ vs H Q E, sp' vs H Q E → sp vs H Q E) :
    FnG P w K mg base k f fd ps sp' :=
  ⟨fun vs H Q E z => F.len vs H Q E (h _ _ _ _ z),
    fun A o s H a us vs Q E hg hr he hb hv hs => F.run A o s H a us vs Q E hg hr he hb hv (h _ _ _ _ hs)⟩
/-- a def by its body -/
theorem okG {x qual : Str} {st : Stmt} {N : List Str} (F : Fun K x qual st f fd) (S : FnScope N ps (defScope st))
    (len : ∀ vs H Q E, sp vs H Q E → vs.length = ps.length)
    (body : ∀ (cdv : Value) (A : Around) (outer : List Env) (s : Shared) (H : Hp) (vs : List V) (Q : VK) (E : XK),
      A.guards = some [] → Room k (A.deeper (envOfC qual (defScope st) s.heap.objs.size f cdv)) → sp vs H Q E →
      ∃ t, PSs (cxOf (L2.CX P w) P w K mg base N qual (defScope st) f cdv A outer s H E) (defBody st) t ∧
        t { nx := fun _ H' => Q .non H', rt := Q } (start N vs) H) :
    FnG P w K mg base (k + 1) f fd ps sp := by
  obtain ⟨oc, od, kV, doc, pm, an, cdv, ct, osl, rfl, lk, hcd⟩ := F.ex
  refine ⟨len, ?_⟩
  intro A outer s H args us vs Q E hg hr e0 hb r hsp
  have hl := len _ _ _ _ hsp
  have stays : ∀ b o, base.get? b = some o → s.heap.get? b = some o := fun b o e => (e0.bs b o e).1
  have KX : K.In s.heap := e0.mod.kin.keeps stays
  have kinds : ∀ y ∈ ps.zip us, (defScope st).names.lookup y.1 = some .local ∨
      ((defScope st).names.lookup y.1 = some .cell ∧
        ((cellsFrom (s.heap.objs.size + 1) (defScope st).names []).lookup y.1).isSome = true) := by
    intro y hy
    rcases S.par y.1 (List.of_mem_zip (a := y.1) (b := y.2) hy).1 with q | q
    · exact Or.inl q
    · exact Or.inr ⟨q, PySem.W.cellsFrom_some _ _ _ (Or.inl q)⟩
  refine codeAny_call_function hr.depth (KX _ _ lk) rfl S.co S.gen rfl (PySem.W.codeRec_of KX hcd) (hb _ _ _ _ ?_)
  refine wpAny_newFunctionEnv_cells S.kind kinds ?_
  intro env he s1 x
  subst he
  refine ⟨(e0.mod.nolimit.keeps stays).keeps x.toInCall.keep, codeAny_func ?_⟩
  obtain ⟨t, ht, hq⟩ := body cdv A outer s H vs Q E hg (hr.deeper _) hsp
  have I := inv_start (CX := L2.CX P w) (E := E) S hr.hd e0 hl r x
  refine wpAny_mono (ht.run [] s1 (start N vs) H _ I hq) ?_ (fun _ _ z => z)
  intro fl s' hs
  have fin : ∀ {σ' : L2.St} {H' : Hp} {v : V} {u : Value},
      Inv (cxOf (L2.CX P w) P w K mg base N qual (defScope st) f cdv A outer s H E) [] σ' H' s' → RelV v u → Q v H' →
      CE outer P w H s Q u s' := fun {σ' H' v u} J rv q => ⟨v, H', J.os, J.bare, J.base, J.hok, rv, q⟩
  cases fl with
  | next => obtain ⟨_, _, J, q⟩ := hs; exact fin (v := V.non) (u := Value.none) J rfl q
  | ret u => obtain ⟨_, _, _, J, rv, q⟩ := hs; exact fin J rv q
  | brk => obtain ⟨_, _, _, q⟩ := hs; exact q.elim
  | cont => obtain ⟨_, _, _, q⟩ := hs; exact q.elim
end

/-! calls -/
section
variable {X : Cx} {W : WX} {k : Nat} {f C : Addr} {fd : FuncData} {ps ks : List Str} {sp : Sp} {x m : Str}
    {p pos apos : Pos} {e o : Expr} {es : List Expr} {kws : List Keyword} {ta : TE} {t tk' : TA}
theorem runG {pins : List (Addr × Obj)} {σ : L2.St} {H : Hp} {s : Shared} {Q : VK} {us us2 : List Value} {vs : List V} {kw : List (Str × Value)}
    (F : FnG X.prog X.w X.K X.mg X.base k f fd ps sp) (tk : Takes X W) (hG : X.A.guards = some []) (hr : Room k X.A)
    (hb : BindsTo s fd ⟨us, kw⟩ (ps.zip us2)) (I : Inv X pins σ H s) (r : Vals vs us2) (h : sp vs H Q (WE W σ)) :
    wpAny (model X.prog X.w) X.A (call (.ref f) us kw) (EP X pins σ Q) X.xe s := by
  refine wpAny_call (codeAny_mono (F.run X.A X.stack s H ⟨us, kw⟩ us2 vs Q (WE W σ) hG hr I.env0 hb r h) ?_)
  intro r s' hq
  cases r with
  | error er => exact passAt tk σ pins H s er s' I hq
  | ok fl =>
    cases fl with
    | ret u => exact I.after hq
    | next => exact hq.elim
    | brk => exact hq.elim
    | cont => exact hq.elim
theorem lenG {us : List Value} {vs : List V} {H : Hp} {Q : VK} {E : XK} (F : FnG X.prog X.w X.K X.mg X.base k f fd ps sp)
    (r : Vals vs us) (h : sp vs H Q E) : us.length = ps.length := by
  rw [← r.length]
  exact F.len _ _ _ _ h
/-- all parameters are given by position -/
def Pos1 (fd : FuncData) (ps : List Str) : Prop := ∀ us : List Value, us.length = ps.length → bindArgs fd ⟨us, []⟩ = pure (ps.zip us)
/-- n parameters are given by position, those behind them by their names -/
def Kw1 (fd : FuncData) (ps ks : List Str) (n : Nat) : Prop :=
  ∀ us ws : List Value, us.length = n → ws.length = ks.length → bindArgs fd ⟨us, ks.zip ws⟩ = pure (ps.zip (us ++ ws))
/-- f(e, ..), also where it may raise -/
def tCG (sp : Sp) (W : WX) (t : TA) : TE := fun σ H Q => t σ H fun vs H1 => sp vs H1 Q (WE W σ)
theorem pe_cG (F : FnG X.prog X.w X.K X.mg X.base k f fd ps sp) (b : Pos1 fd ps) (tk : Takes X W) (hG : X.A.guards = some []) (hr : Room k X.A)
    (hm : X.mg x = some (.ref f)) (hk : PySem.W.keepIn X.K (.ref f) = true) (ha : PA X (e :: es) t) (hg : Gl X x := by rfl)
    (hdb : (x == ("__debug__" : Str)) = false := by decide) (he : starEach (e :: es) X.env = (false, eval e X.env) :: starEach es X.env := by rfl)
    (hpl : (backTo pos (starEach es X.env)).any (·.1) = false := by rfl) : PE X (.Call (.Name x p) (e :: es) [] pos) (tCG sp W t) := by
  constructor
  intro pins s σ H Q I h
  refine wpAny_Call_Name_kw (ld_glob I hg hm ?_ hdb)
  refine PySem.W.callWith_K (h₀ := X.base) I.ok.mod.kin hk (thn (ha.run pos pins s σ H _ I h) ?_) he hpl
  intro us s1 ⟨vs, H1, I1, r, q⟩
  exact ⟨I1.kIn, runG F tk hG hr (.of_eq (b _ (lenG F r q))) I1 r q⟩
theorem pe_cG0 (F : FnG X.prog X.w X.K X.mg X.base k f fd ps sp) (b : Pos1 fd ps) (tk : Takes X W) (hG : X.A.guards = some []) (hr : Room k X.A)
    (hm : X.mg x = some (.ref f)) (hk : PySem.W.keepIn X.K (.ref f) = true) (hg : Gl X x := by rfl)
    (hdb : (x == ("__debug__" : Str)) = false := by decide) : PE X (.Call (.Name x p) [] [] pos) (tCG sp W tNil) := by
  constructor
  intro pins s σ H Q I h
  refine wpAny_Call_Name_kw (ld_glob I hg hm ?_ hdb)
  exact PySem.W.callWith_K0 I.kIn hk (runG F tk hG hr (.of_eq (b [] (lenG F .nil h))) I .nil h)
/-- f(k = e, ..), keywords in the parameters' order -/
theorem pe_cGk (F : FnG X.prog X.w X.K X.mg X.base k f fd ps sp) (b : Kw1 fd ps ks 0) (hlen : ps.length = ks.length) (tk : Takes X W) (hG : X.A.guards = some []) (hr : Room k X.A)
    (hm : X.mg x = some (.ref f)) (hk : PySem.W.keepIn X.K (.ref f) = true) (ha : PK X kws t) (hg : Gl X x := by rfl)
    (hall : (backToKw pos (keywordEach kws X.env)).all (·.1.isSome) = true := by rfl) (hks : (backToKw pos (keywordEach kws X.env)).filterMap (·.1) = ks := by rfl)
    (hdb : (x == ("__debug__" : Str)) = false := by decide)
    (hpl : ((backTo pos (starEach [] X.env)).any (·.1) || (backToKw pos (keywordEach kws X.env)).any (·.1.isNone)) = false := by rfl) :
    PE X (.Call (.Name x p) [] kws pos) (tCG sp W t) := by
  constructor
  intro pins s σ H Q I h
  refine wpAny_Call_Name_kw (ld_glob I hg hm ?_ hdb)
  refine PySem.W.callWith_KW0 (h₀ := X.base) I.ok.mod.kin hk hall ?_ hpl
  refine thn (ha.run pos pins s σ H _ I h) ?_
  intro ws s2 ⟨zs, H2, I2, rz, q2⟩
  refine ⟨I2.kIn, ?_⟩
  rw [hks]
  exact runG F tk hG hr (.of_eq (b [] ws rfl ((lenG F rz q2).trans hlen))) I2 rz q2
/-- o.m(e, ..) -/
def tMG (C : Addr) (m : Str) (sp : Sp) (W : WX) (ta : TE) (t : TA) : TE := fun σ H Q => ta σ H fun x H1 => ∃ a dx fs, x = .ref a ∧ H1 a = some (.ins C dx fs) ∧
  fs.lookup m = none ∧ t σ H1 fun vs H2 => sp (x :: vs) H2 Q (WE W σ)
theorem pe_mG {pl : Sem Bool} (he : PE X o ta) (c : Cls X.K C) (hm : Meth X.K C m f) (F : FnG X.prog X.w X.K X.mg X.base k f fd ps sp) (b : Pos1 fd ps) (tk : Takes X W)
    (hG : X.A.guards = some []) (hr : Room k X.A) (ha : PA X (e :: es) t)
    (hst : starEach (e :: es) X.env = (false, eval e X.env) :: starEach es X.env := by rfl) (hpl : (backTo pos (starEach es X.env)).any (·.1) = false := by rfl)
    (ht : eval (.Call (.Attribute o m apos) (e :: es) [] pos) X.env = (do
      let ov ← eval o X.env
      standAt apos.atName
      let (f, first) ← holding [ov] (getMethod ov m pl)
      callWith pos f first (backTo pos (starEach (e :: es) X.env)) (backToKw pos (keywordEach [] X.env))) := by rfl) :
    PE X (.Call (.Attribute o m apos) (e :: es) [] pos) (tMG C m sp W ta t) := by
  constructor
  intro pins s σ H Q I h
  refine PySem.W.methodCall_KW (pl := pl) (thn (he.run pins s σ H _ I h) ?_) ht
  intro u s1 ⟨x, H1, I1, rx, a, dx, fs, ex, ea, l, q⟩
  subst ex
  obtain rfl : u = Value.ref a := rx
  refine getmeth_ok I1 ea c hm l ?_
  refine PySem.W.callWith_K (first := [.ref a]) (h₀ := X.base) I.ok.mod.kin hm.kp (thn (ha.run pos pins s1 σ H1 _ I1 q) ?_) hst hpl
  intro us s2 ⟨vs, H2, I2, r, q2⟩
  have r2 : Vals (V.ref a :: vs) (Value.ref a :: us) := .cons rfl r
  exact ⟨I2.kIn, runG (us := .ref a :: us) F tk hG hr (.of_eq (b _ (lenG F r2 q2))) I2 r2 q2⟩
theorem pe_mG0 {pl : Sem Bool} (he : PE X o ta) (c : Cls X.K C) (hm : Meth X.K C m f) (F : FnG X.prog X.w X.K X.mg X.base k f fd ps sp) (b : Pos1 fd ps) (tk : Takes X W)
    (hG : X.A.guards = some []) (hr : Room k X.A)
    (ht : eval (.Call (.Attribute o m apos) [] [] pos) X.env = (do
      let ov ← eval o X.env
      standAt apos.atName
      let (f, first) ← holding [ov] (getMethod ov m pl)
      callWith pos f first (backTo pos (starEach [] X.env)) (backToKw pos (keywordEach [] X.env))) := by rfl) :
    PE X (.Call (.Attribute o m apos) [] [] pos) (tMG C m sp W ta tNil) := by
  constructor
  intro pins s σ H Q I h
  refine PySem.W.methodCall_KW (pl := pl) (thn (he.run pins s σ H _ I h) ?_) ht
  intro u s1 ⟨x, H1, I1, rx, a, dx, fs, ex, ea, l, q⟩
  subst ex
  obtain rfl : u = Value.ref a := rx
  refine getmeth_ok I1 ea c hm l ?_
  have r2 : Vals [V.ref a] [Value.ref a] := .cons rfl .nil
  exact PySem.W.callWith_K0 (first := [.ref a]) I1.kIn hm.kp (runG (us := [.ref a]) F tk hG hr (.of_eq (b _ (lenG F r2 q))) I1 r2 q)
/-- o.m(k = e, ..) -/
theorem pe_mGk {pl : Sem Bool} (he : PE X o ta) (c : Cls X.K C) (hm : Meth X.K C m f) (F : FnG X.prog X.w X.K X.mg X.base k f fd ps sp) (b : Kw1 fd ps ks 1) (hlen : ps.length = ks.length + 1) (tk : Takes X W)
    (hG : X.A.guards = some []) (hr : Room k X.A) (ha : PK X kws t)
    (hall : (backToKw pos (keywordEach kws X.env)).all (·.1.isSome) = true := by rfl) (hks : (backToKw pos (keywordEach kws X.env)).filterMap (·.1) = ks := by rfl)
    (hpl : ((backTo pos (starEach [] X.env)).any (·.1) || (backToKw pos (keywordEach kws X.env)).any (·.1.isNone)) = false := by rfl)
    (ht : eval (.Call (.Attribute o m apos) [] kws pos) X.env = (do
      let ov ← eval o X.env
      standAt apos.atName
      let (f, first) ← holding [ov] (getMethod ov m pl)
      callWith pos f first (backTo pos (starEach [] X.env)) (backToKw pos (keywordEach kws X.env))) := by rfl) :
    PE X (.Call (.Attribute o m apos) [] kws pos) (tMG C m sp W ta t) := by
  constructor
  intro pins s σ H Q I h
  refine PySem.W.methodCall_KW (pl := pl) (thn (he.run pins s σ H _ I h) ?_) ht
  intro u s1 ⟨x, H1, I1, rx, a, dx, fs, ex, ea, l, q⟩
  subst ex
  obtain rfl : u = Value.ref a := rx
  refine getmeth_ok I1 ea c hm l ?_
  refine PySem.W.callWith_KW0 (first := [.ref a]) (h₀ := X.base) I.ok.mod.kin hm.kp hall ?_ hpl
  refine thn (ha.run pos pins s1 σ H1 _ I1 q) ?_
  intro ws s2 ⟨zs, H2, I2, rz, q2⟩
  refine ⟨I2.kIn, ?_⟩
  rw [hks]
  have r2 : Vals (V.ref a :: zs) (Value.ref a :: ws) := .cons rfl rz
  have hw : ws.length = ks.length := by
    have z := lenG F r2 q2
    rw [List.length_cons, hlen] at z
    omega
  exact runG (us := [.ref a]) F tk hG hr (.of_eq (b [.ref a] ws rfl hw)) I2 r2 q2
end
end Nv

namespace Nv
open PySem PySem.Spec PyProof.Rows L2

/-- the law's call, from an abstract heap that tracks the script alone or nothing -/
theorem law_from {P : Program} {w : World} {K : PySem.W.Frag} {mg mb : Str → Option Value} {k : Nat} {fa a : Addr} {fd : FuncData} {x : Str} {sp : Sp}
    {s₁ : Shared} {vs : List Value} {H : Hp}
    (KX : K.In s₁.heap) (hns : s₁.heap.Ns mainGlobals mg) (hb : s₁.heap.Ns builtinsNs mb) (hbb : ∀ x : Str, x ≠ "__name__" → mb x = bootBuiltins x)
    (hlim : s₁.heap.NoLimit) (hg : s₁.gens = #[]) (ha : s₁.heap.get? a = some { cls := .type "list", data := .seq vs.toArray }) (hr : Room k callerA)
    (F : ∀ base : Heap, K.In base → base.Ns mainGlobals mg → FnG P w K mg base k fa fd [x] sp) (hbind : ∀ (s : Shared) (u : Value), BindsTo s fd ⟨[u], []⟩ [(x, u)])
    (hok : HOk P w H s₁.heap) (only : ∀ b, H b = none ∨ (b = a ∧ K.lookup a = none ∧ ∃ o xs, H b = some (.frz o (.lst xs))))
    (hsp : sp [.ref a] H (fun v _ => v = .bl true) fun _ _ _ => False) :
    codeAny (model P w) callerA (.call (.ref fa) ⟨[.ref a], []⟩)
      (fun r s' => r = .ok (.ret (.bool true)) ∧ OldK s₁.heap s'.heap ∧ s'.os = s₁.os ∧ AllBare s'.gens) s₁ := by
  have notA : ∀ {b : Addr} {o : Obj} {es : Array DictEntry} {ep : Nat}, s₁.heap.get? b = some o → o.data = .dict es ep → H b = none := by
    intro b o es ep e d
    rcases only b with z | ⟨z, _, _⟩
    · exact z
    · subst z
      rw [ha] at e
      cases e
      cases (show Data.seq vs.toArray _ = Data.dict es ep from d)
  have nsKeep : ∀ {b : Addr} {m : Str → Option Value}, s₁.heap.Ns b m → (hidT s₁.heap H).Ns b m := by
    intro b m ⟨o, es, ep, e, d, r⟩
    exact ⟨o, es, ep, hidT_get e (notA e d), d, r⟩
  have kin : K.In (hidT s₁.heap H) := by
    intro b o e
    refine hidT_get (KX b o e) ?_
    rcases only b with z | ⟨z, z2, _⟩
    · exact z
    · rw [z, z2] at e
      cases e
  have lim : (hidT s₁.heap H).NoLimit := by
    obtain ⟨mc, h1, h2⟩ := hlim
    exact ⟨mc, nsKeep h1, h2⟩
  have md : Mod K mg (hidT s₁.heap H) := ⟨kin, nsKeep hns, ⟨mb, nsKeep hb, hbb⟩, lim⟩
  have noF : ∀ b : Addr, b ∉ frs [] := fun b z => by
    cases (show b ∈ ([] : List Addr) from z)
  have e0 : Env0 P w K mg (hidT s₁.heap H) callerA [] s₁ H :=
    ⟨rfl, md, fun b o e => of_hidT e, Nat.le_of_eq (hidT_size _ _), trivial, fun b z => absurd z (noF b), hok, .of_eq hg⟩
  refine codeAny_mono ((F _ kin (nsKeep hns)).run callerA [] s₁ H ⟨[.ref a], []⟩ [.ref a] [.ref a] _ _ rfl hr e0 (hbind s₁ (.ref a)) (.cons rfl .nil) hsp) ?_
  intro r s' h
  cases r with
  | error e =>
    obtain ⟨_, _, _, _, _, _, _, _, _, _, _, _, z⟩ := h
    exact z.elim
  | ok fl =>
    cases fl with
    | next => exact h.elim
    | brk => exact h.elim
    | cont => exact h.elim
    | ret u =>
      obtain ⟨v, H', os, bare, un, hok', rv, q⟩ := h
      have q1 : v = .bl true := q
      subst q1
      obtain rfl : u = Value.bool true := rv
      refine ⟨rfl, OldK.of_keep ?_, os, bare⟩
      intro b o e
      rcases only b with z | ⟨_, _, ob, xs, z⟩
      · exact un.keep b o e z (noF b) (fun z => by cases z)
      · have z2 := un.frzs b ob _ z
        have e1 := (hok b _ z).1
        have e2 := (hok' b _ z2).1
        rw [e] at e1
        cases e1
        exact e2

/-- the end of a law's row: its promise as a FnG -/
theorem walkG {l : PySem.W.OpenLaw} {n k : Nat} {q : Program} {loose : List Str} {XP : (Str → Option Value) → Heap → Prop} {YP : World → Heap → Prop}
    {d : DefRec} {K : Params → PySem.W.Frag} {sp : PySem.W.Frag → Sp} {x : Str}
    (hn : l.most = some n) (hn2 : n ≤ sizeLine) (hdf : d.params.defaults = []) (hr : Room k callerA)
    (hY : ∀ (w : World) (h : Heap), YP w h → (K w.params).In h)
    (F : ∀ (w : World) (mg : Str → Option Value) (fa : Addr) (h : Heap), (K w.params).In h → h.Ns mainGlobals mg → mg d.name = some (.ref fa) →
      ∃ fd : FuncData, (∀ (s : Shared) (u : Value), BindsTo s fd ⟨[u], []⟩ [(x, u)]) ∧
        ∀ base : Heap, (K w.params).In base → base.Ns mainGlobals mg → FnG l.prog w (K w.params) mg base k fa fd [x] (sp (K w.params)))
    (hsp : ∀ (K : PySem.W.Frag) (H : Hp) (a : Addr) (ns : List Int), ns.length ≤ n → SqL K H a (ns.map V.int) → sp K [.ref a] H (fun v _ => v = .bl true) fun _ _ _ => False) :
    PySem.W.WalkO q loose XP YP l.row.toRowW d [] (fun f vs => PySem.call f vs) := by
  refine Att.attach_call hn hdf ?_
  intro w s₀ s₁ mg mb fa o pm cd doc a vs ns G Y ho hd hcd hmg hobj hints hlen hg
  have KX := hY w _ Y
  obtain ⟨fd, hb, hF⟩ := F w mg fa _ KX G.T.g hmg
  have rv := vals_ints hints
  have lv := hints.length
  have hlz : ns.length ≤ sizeLine := Nat.le_trans hlen hn2
  cases hk : (K w.params).lookup a with
  | some ob =>
    have e := KX a ob hk
    rw [hobj] at e
    cases e
    refine law_from (H := fun _ => none) KX G.T.g G.T.b G.T.builtins G.T.nolimit hg hobj hr hF hb (fun b u z => by cases z) (fun _ => .inl rfl) (hsp _ _ a ns hlen ?_)
    exact .inr ⟨_, vs.toArray, _, hk, rfl, rfl, rfl, by rw [List.size_toArray, lv]; exact hlz, by simpa using rv⟩
  | none =>
    have at1 : ∀ (o : HO) , (fun b => if b = a then some o else none : Hp) a = some o := fun o => if_pos rfl
    refine law_from (H := fun b => if b = a then some (.frz { cls := .type "list", data := .seq vs.toArray } (.lst (ns.map V.int))) else none)
      KX G.T.g G.T.b G.T.builtins G.T.nolimit hg hobj hr hF hb ?_ ?_ (hsp _ _ a ns hlen (.inl (.inr ⟨_, at1 _⟩)))
    · intro b u z
      by_cases h : b = a
      · subst h
        rw [at1] at z
        cases z
        exact ⟨hobj, by rw [List.length_map]; exact hlz, vs, _, rv, hobj⟩
      · have z2 := (if_neg h).symm.trans z
        cases z2
    · intro b
      by_cases h : b = a
      · exact .inr ⟨h, hk, _, _, if_pos h⟩
      · exact .inl (if_neg h)
end Nv

namespace Nv
open PySem PySem.Spec PyProof.Rows L2

/-! data that stands in the heap, dicts too -/
def keyD : Key → PyData
  | .inl i => .int i
  | .inr x => .str x
mutual
inductive DV (H : Hp) : V → PyData → Prop
  | non : DV H .non .none
  | bl (b : Bool) : DV H (.bl b) (.bool b)
  | int (i : Int) : DV H (.int i) (.int i)
  | str (x : Str) : DV H (.str x) (.str x)
  | lst {a : Addr} {xs : List V} {ds : List PyData} : H a = some (.lst xs) → a ≠ sysModules → DVs H xs ds → DV H (.ref a) (.list ds)
  | tup {a : Addr} {xs : List V} {ds : List PyData} : H a = some (.tup xs) → DVs H xs ds → DV H (.ref a) (.tuple ds)
  | dct {a : Addr} {kvs : List (Key × V)} {ds : List (PyData × PyData)} : H a = some (.dK kvs) → DVk H kvs ds → DV H (.ref a) (.dict ds)
inductive DVs (H : Hp) : List V → List PyData → Prop
  | nil : DVs H [] []
  | cons {v : V} {vs : List V} {d : PyData} {ds : List PyData} : DV H v d → DVs H vs ds → DVs H (v :: vs) (d :: ds)
inductive DVk (H : Hp) : List (Key × V) → List (PyData × PyData) → Prop
  | nil : DVk H [] []
  | cons {k : Key} {v : V} {vs : List (Key × V)} {d : PyData} {ds : List (PyData × PyData)} : DV H v d → DVk H vs ds → DVk H ((k, v) :: vs) ((keyD k, d) :: ds)
end
mutual
theorem DV.mono {H H' : Hp} (e : ∀ a o, H a = some o → H' a = some o) : ∀ {v : V} {d : PyData}, DV H v d → DV H' v d
  | _, _, .non => .non
  | _, _, .bl b => .bl b
  | _, _, .int i => .int i
  | _, _, .str x => .str x
  | _, _, .lst h n r => .lst (e _ _ h) n (DVs.mono e r)
  | _, _, .tup h r => .tup (e _ _ h) (DVs.mono e r)
  | _, _, .dct h r => .dct (e _ _ h) (DVk.mono e r)
theorem DVs.mono {H H' : Hp} (e : ∀ a o, H a = some o → H' a = some o) : ∀ {vs : List V} {ds : List PyData}, DVs H vs ds → DVs H' vs ds
  | _, _, .nil => .nil
  | _, _, .cons h r => .cons (DV.mono e h) (DVs.mono e r)
theorem DVk.mono {H H' : Hp} (e : ∀ a o, H a = some o → H' a = some o) : ∀ {vs : List (Key × V)} {ds : List (PyData × PyData)}, DVk H vs ds → DVk H' vs ds
  | _, _, .nil => .nil
  | _, _, .cons h r => .cons (DV.mono e h) (DVk.mono e r)
end

section
variable {X : Cx} {pins : List (Addr × Obj)} {σ : L2.St} {H : Hp} {s : Shared}
theorem readsKey {w : World} {h : Heap} {k : Key} {v : Value} (e : keyIs k v = true) : Reads h v (keyD k) [] := by
  rcases keyIs_shape e with ⟨i, t, rfl, rfl⟩ | ⟨x, t, rfl, rfl⟩
  · exact .int i t
  · exact .str x t
mutual
theorem DV.reads (I : Inv X pins σ H s) : ∀ {v : V} {d : PyData} {u : Value}, DV H v d → RelV v u → ∃ as, Reads s.heap u d as ∧ sysModules ∉ as
  | _, _, u, .non, r => by
    cases (show u = Value.none from r)
    exact ⟨[], .none, by simp⟩
  | _, _, u, .bl b, r => by
    cases (show u = Value.bool b from r)
    exact ⟨[], .bool b, by simp⟩
  | _, _, u, .int i, r => by
    obtain ⟨t, rfl⟩ := (show ∃ t, u = Value.int i t from r)
    exact ⟨[], .int i t, by simp⟩
  | _, _, u, .str x, r => by
    obtain ⟨t, rfl⟩ := (show ∃ t, u = Value.str x t from r)
    exact ⟨[], .str x t, by simp⟩
  | _, _, u, @DV.lst _ a xs ds h n q, r => by
    cases (show u = Value.ref a from r)
    obtain ⟨_, its, m, rv, e⟩ := (show ObjOk X.prog X.w H s.heap a (.lst xs) from I.hok a _ h)
    obtain ⟨as, ra, na⟩ := DVs.reads I q rv
    refine ⟨a :: as, .list e rfl rfl ra, fun z => ?_⟩
    rcases List.mem_cons.mp z with z | z
    · exact n z.symm
    · exact na z
  | _, _, u, @DV.tup _ a xs ds h q, r => by
    cases (show u = Value.ref a from r)
    obtain ⟨_, its, rv, o, e1, e2, m, e3⟩ := (show ObjOk X.prog X.w H s.heap a (.tup xs) from I.hok a _ h)
    obtain ⟨as, ra, na⟩ := DVs.reads I q rv
    exact ⟨as, .tuple e1 e2 e3 ra, na⟩
  | _, _, u, @DV.dct _ a kvs ds h q, r => by
    cases (show u = Value.ref a from r)
    obtain ⟨_, ns, vs, rel, o, es, ep, e1, e2, e3, _, pr, _⟩ := (show ObjOk X.prog X.w H s.heap a (.dK kvs) from I.hok a _ h)
    obtain ⟨as, bs, k1, k2, n1, n2⟩ := DVk.reads I q rel pr
    refine ⟨a :: as ++ bs, .dict e1 e2.1 e3 k1 k2, fun z => ?_⟩
    have na : a ≠ sysModules := fun z => by
      rw [z] at ns
      simp at ns
    rcases List.mem_cons.mp z with z | z
    · exact na z.symm
    · rcases List.mem_append.mp z with z | z
      · exact n1 z
      · exact n2 z
theorem DVs.reads (I : Inv X pins σ H s) : ∀ {vs : List V} {ds : List PyData} {us : List Value}, DVs H vs ds → Vals vs us → ∃ as, ReadsAll s.heap us ds as ∧ sysModules ∉ as
  | _, _, _, .nil, .nil => ⟨[], .nil, by simp⟩
  | _, _, _, .cons h q, .cons r t => by
    obtain ⟨as, r1, n1⟩ := DV.reads I h r
    obtain ⟨bs, r2, n2⟩ := DVs.reads I q t
    exact ⟨as ++ bs, .cons r1 r2, fun z => (List.mem_append.mp z).elim n1 n2⟩
theorem DVk.reads (I : Inv X pins σ H s) : ∀ {kvs : List (Key × V)} {ds : List (PyData × PyData)} {vs : List (Key × Value)} {es : List DictEntry}, DVk H kvs ds → KV kvs vs → Pairs (mixKind X.prog X.w) es vs →
    ∃ as bs, ReadsAll s.heap (es.map (fun x => x.key)) (ds.map (fun x => x.1)) as ∧ ReadsAll s.heap (es.map (fun x => x.val)) (ds.map (fun x => x.2)) bs ∧ sysModules ∉ as ∧ sysModules ∉ bs
  | _, _, _, _, .nil, .nil, p => by
    cases p
    exact ⟨[], [], .nil, .nil, by simp, by simp⟩
  | _, _, _, _, .cons (k := k) h q, .cons r t, p => by
    cases p with
    | cons p1 p2 p3 =>
      obtain ⟨rk, rv⟩ := r
      rw [← rk, mixKind_is] at p1
      rw [← p2] at rv
      obtain ⟨as, r1, n1⟩ := DV.reads I h rv
      obtain ⟨bs, cs, r2, r3, n2, n3⟩ := DVk.reads I q t p3
      have rd := readsKey (w := X.w) (h := s.heap) p1
      exact ⟨[] ++ bs, as ++ cs, .cons rd r2, .cons r1 r3, by simpa using n2, fun z => (List.mem_append.mp z).elim n1 n3⟩
end

/-- repr(x), x a list, a tuple or a dict of data -/
def rRepr : List V → Hp → VK → Prop := fun xs H Q => ∃ (a : Addr) (d : PyData), xs = [.ref a] ∧ DV H (.ref a) d ∧ d.showable = true ∧ d.depth ≤ 60 ∧ d.shown.length ≤ sizeLine ∧ Q (.str d.shown) H
theorem call_repr (hG : X.A.guards = some []) (hu : X.A.units + 64 < cLine) : CallR X (.builtin "repr") rRepr := by
  intro pins s σ H xs us Q I r h
  obtain ⟨a, d, rfl, hd, hs, hp, hz, q⟩ := h
  cases r with
  | cons r1 r2 =>
    cases r2
    cases r1
    obtain ⟨as, rd, na⟩ := DV.reads I hd rfl
    exact repr_of_reads' rd hs (fun _ => na) hG (by omega) (fun _ _ e => e) (fun h' u tk k => ⟨.str d.shown, H, I.kept k, ⟨u, rfl⟩, q⟩) hz
end
end Nv

namespace PySem.W
open PySem PySem.Spec PySem.Calls PyProof.Rows
section
variable {prog : Program} {w : World} {A : Around} {E : Value → Shared → Prop} {s : Shared} {K : Frag} {x D : Addr} {ox : Obj} {od : Option Obj}
/-- what isinstance asks of the class D of an own exception -/
structure NvCls (K : Frag) (D : Addr) : Prop where
  ga : findIn K (.ref D) "__getattribute__" = some (some (.builtin "BaseException.__getattribute__"))
  gt : findIn K (.ref D) "__getattr__" = some none
  sub : subIn K (.ref D) (.type "BaseException") = some true
  dct : hasDictIn K D = true
  cl : findIn K (.ref D) "__class__" = some (some (.builtin "object.__class__"))
  sp : specialIn K (.builtin "object.__class__") "__get__" = some (some (.builtin "getset_descriptor.__get__"))
  tk : takesIn K (.builtin "object.__class__") = some true
  mo : mroIn K D (.type "object") = some true
theorem nv_find (c : NvCls K D) : findObj K D od "__class__" = some (.bind (.builtin "getset_descriptor.__get__") (.builtin "object.__class__")) := by
  have hs : (clsIn K D).isSome = true := by
    obtain ⟨cd, h, _⟩ := any_some c.dct
    rw [h]
    rfl
  cases od with
  | none => exact findObj_dataN hs c.cl c.sp c.tk
  | some o => exact findObj_data hs c.cl c.sp c.tk
theorem nv_class {Q : Option Value → Shared → Prop} (c : NvCls K D) (X : K.In s.heap) (I : InstAt s.heap x ox D od)
    (h : Q (some (.ref D)) { s with toks := s.toks + 1 }) : wpAny (model prog w) A (getAttr? (.ref x) "__class__") Q E s := by
  have e1 : (false && onTheHeap (Value.builtin "BaseException.__getattribute__")) = false := rfl
  have e2 : (Value.builtin "BaseException.__getattribute__" == Value.builtin "object.__getattribute__") = false := by decide +kernel
  have e3 : (onTheHeap (Value.ref D) && Value.builtin "BaseException.__getattribute__" == Value.builtin "object.__getattribute__") = false := by
    rw [e2]
    rfl
  obtain ⟨hp, g, d, t, os⟩ := s
  have T0 := I.type (M := model prog w)
  have T1 := looks_findIn (M := model prog w) X c.ga
  have T2 := looks_findIn (M := model prog w) X c.gt
  have T3 := looks_find (M := model prog w) X I (nv_find (od := od) c)
  have T4 : Looks (model prog w) hp (isInstance (.ref x) (.type "BaseException")) true := T0.andThen (looks_subIn X c.sub)
  unfold getAttr? getAttrBy? getAttrBy
  refine wpAny_bind (wpAny_mkText (wpAny_bind (wpAny_attempt ?_)))
  refine wpAny_holding (wpAny_bind (T0.at (wpAny_bind (T1.at ?_))))
  show wpAny _ _ (if (onTheHeap (Value.ref D) && Value.builtin "BaseException.__getattribute__" == Value.builtin "object.__getattribute__") = true then _ else _) _ _ _
  rw [e3, if_neg Bool.false_ne_true]
  unfold getAttrByItsOwn hookBefore
  refine wpAny_bind ?_
  rw [if_pos (show onTheHeap (Value.ref D) = true from rfl)]
  refine T2.at (wpAny_bind (wpAny_attempt (wpAny_holding ?_)))
  unfold callGetattribute
  rw [e1, if_neg Bool.false_ne_true]
  unfold boundAndCalled
  rw [PySem.F.excAttr_ValueError.ga.bind (.ref x)]
  refine wpAny_bind (wpAny_pure ?_)
  show wpAny _ _ (call (.builtin "BaseException.__getattribute__") [.ref x, .str "__class__" t]) _ _ _
  refine wpAny_call (codeAny_call_builtin PySem.F.excAttr_ValueError.ga.plain PySem.F.entry_bexc_ga ?_)
  refine @check_slot (model prog w) _ _ ⟨hp, g, d, t + 1, os⟩ "BaseException.__getattribute__" "BaseException" "__getattribute__" (.ref x)
    [.str "__class__" t] [] _ (by decide +kernel) (by decide +kernel) T4 (PySem.F.args_bexc_ga (.ref x) (.str "__class__" t)) ?_
  unfold Builtin.«object.__getattribute__»
  refine wpAny_bind (wpAny_of_eq (a := ((Value.ref x : Value), [Value.str "__class__" t])) (by first | rfl | (simp only [slotArgs]; rfl)) ?_)
  refine wpAny_bind (wpAny_pure (wpAny_bind (T0.at (wpAny_bind (T3.at ?_)))))
  show wpAny _ _ (holding [Value.builtin "object.__class__"] (call (.builtin "getset_descriptor.__get__") [.builtin "object.__class__", .ref x, .ref D]) >>= ret) _ _ _
  refine wpAny_bind (wpAny_holding (wpAny_call (class_get (s := ⟨hp, g, d, t + 1, os⟩) (ox := ox) (od := od) X I c.mo ?_)))
  refine wpAny_pure ?_
  show wpAny _ _ (handedOut (.ref D)) _ _ _
  rw [handedOut_of (v := .ref D) rfl]
  first
    | exact wpAny_pure (wpAny_pure h)
    | exact wpAny_pure h
    | exact wpAny_pure (wpAny_bind (wpAny_pure (wpAny_pure h)))
theorem nv_kit (c : NvCls K D) : KitX K (.ref x) (.ref D) (fun h => ∃ od, InstAt h x ox D od) := by
  obtain ⟨cdD, hcD, _⟩ := any_some c.dct
  refine ⟨fun _ _ _ ⟨_, I⟩ => I.type, fun _ _ X _ => ?_, fun h tp dd its n sl X htp => ?_, fun X ⟨_, I⟩ k => nv_class c X I k⟩
  · unfold clsIn at hcD
    split at hcD
    · rename_i ho
      intro A' Q' E' s' k q
      unfold isType loadHead
      exact wpAny_bind (wpAny_loadPart (k _ _ (X _ _ ho)) (wpAny_pure q))
    · cases hcD
  · cases q : (Value.ref D == Value.ref tp) with
    | false => rfl
    | true =>
      have e : D = tp := Value.ref.inj (beq_iff_eq.mp q)
      subst e
      unfold clsIn at hcD
      split at hcD
      · rename_i ho
        have z := (X _ _ ho).symm.trans htp
        cases z
      · cases hcD
end
end PySem.W
namespace Nv
open PySem PySem.Spec PyProof.Rows L2

/-- isinstance(e, c), e the exception that the suite holds, with a dict of its own or without -/
def rIsX (K : PySem.W.Frag) (cls : Value) (a : Addr) : List V → Hp → VK → Prop := fun xs H Q => ∃ (D : Addr) (c : V) (cv : Value) (b : Bool), xs = [.ref a, c] ∧ cls = .ref D ∧
  PySem.W.NvCls K D ∧ (∀ u, RelV c u → u = cv) ∧ PySem.W.kitOne K (.ref D) cv = some b ∧ (∀ dd, H dd = H dd) ∧ Q (.bl b) H
/-- the dict of the held exception, if it has one, stands in the heap -/
def XDict (H : Hp) (d : Option Addr) : Prop := ∀ dd, d = some dd → ∃ fs, H dd = some (.xd fs)
def rIsXd (K : PySem.W.Frag) (cls : Value) (d : Option Addr) (a : Addr) : List V → Hp → VK → Prop := fun xs H Q => ∃ (D : Addr) (c : V) (cv : Value) (b : Bool), xs = [.ref a, c] ∧ cls = .ref D ∧
  PySem.W.NvCls K D ∧ (∀ u, RelV c u → u = cv) ∧ PySem.W.kitOne K (.ref D) cv = some b ∧ XDict H d ∧ Q (.bl b) H
theorem call_isX {X : Cx} {a : Addr} {oe : Obj} {cls : Value} {d : Option Addr} {pn : List (Addr × Obj)} (hz : Zc cls d oe) (hf : ∃ vs, oe.data = .fields vs) :
    CallR (X.suite a ((a, oe) :: pn)) (.builtin "isinstance") (rIsXd X.K cls d a) := by
  intro pins s σ H xs us Q I r h
  obtain ⟨D, c, cv, b, rfl, rfl, C, hcv, e, hx, q⟩ := h
  cases r with
  | cons rx rr =>
    cases rr with
    | cons rt rr =>
      cases rr
      cases rx
      have ec := hcv _ rt
      subst ec
      obtain ⟨hget, _⟩ := I.pin (a, oe) (List.mem_append.mpr (.inl List.mem_cons_self))
      obtain ⟨vs, hv⟩ := hf
      have J : ∃ od, PySem.W.InstAt s.heap a oe D od := by
        have no : PySem.W.notCls oe = true := by
          unfold PySem.W.notCls
          rw [hv] <;> rfl
        cases d with
        | none => exact ⟨none, hget, hz.1, no, by rw [hz.2]; trivial⟩
        | some dd =>
          obtain ⟨fs, hd⟩ := hx dd rfl
          obtain ⟨mA, ⟨od, es, ep, ho, _⟩, _⟩ := (show ObjOk X.prog X.w H s.heap dd (.xd fs) from I.hok dd _ hd)
          exact ⟨some od, hget, hz.1, no, by rw [hz.2]; exact ho⟩
      exact PySem.W.kia_one (PySem.W.nv_kit C) I.kIn J e (fun z => nomatch z) fun tk => ⟨.bl b, H, I.kept (t' := tk) fun _ _ z => z, rfl, q⟩
end Nv

namespace Nv
open PySem PySem.Spec PyProof.Rows L2

/-- an except clause's class, the slot of its name, the reading of its suite -/
abbrev Cls3 := Value × Nat × (Addr → Value → Option Addr → TS)
/-- the ends behind a suite: its name is gone -/
def gone (i : Nat) (D : Ends) : Ends :=
  { nx := fun σ' H' => D.nx (σ'.set i none) H', rt := D.rt, bk := fun σ' H' => D.bk (σ'.set i none) H', ct := fun σ' H' => D.ct (σ'.set i none) H' }
def wAsN (K : PySem.W.Frag) (Wout : WX) (D : Ends) : List Cls3 → WX
  | [] => Wout
  | (c, i, ts) :: r => fun cls d σ H => ∃ b, PySem.W.exmOne K cls c = some b ∧
      (b = true → ∀ a, H a = none → ts a cls d (gone i D) (σ.set i (some (.ref a))) H) ∧ (b = false → wAsN K Wout D r cls d σ H)
inductive HdsAs (X : Cx) : List ExceptHandler → List Cls3 → Prop
  | nil : HdsAs X [] []
  | cons {x n : Str} {c : Value} {i : Nat} {ts : Addr → Value → Option Addr → TS} {b₀ : Stmt} {suite : List Stmt} {np pos' : Pos} {hds : List ExceptHandler} {l : List Cls3}
      (hi : X.N[i]? = some n) (hln : X.env.kindOf n = some .local) (hc : Names X x c)
      (hsu : ∀ (a : Addr) (oe : Obj) (cls : Value) (d : Option Addr) (pn : List (Addr × Obj)), Zc cls d oe → (∃ vs, oe.data = .fields vs) → PSs (X.suite a ((a, oe) :: pn)) (b₀ :: suite) (ts a cls d))
      (r : HdsAs X hds l) : HdsAs X (.ExceptHandler (some (.Name x np)) (some n) (b₀ :: suite) pos' :: hds) ((c, i, ts) :: l)

section
variable {X : Cx} {pins : List (Addr × Obj)} {σ : L2.St} {H : Hp}
theorem field_not_frame {B h : Heap} {l : List Env} {a : Addr} {o : Obj} {vs : Array Value} (ff : h.FunFrames B l) (e : h.get? a = some o) (dd : o.data = .fields vs) : a ∉ frs l := fun hm => by
  obtain ⟨_, o', e', hnf⟩ := ff.mem hm
  rw [e] at e'
  cases e'
  exact hnf _ dd
/-- the clauses, one behind another, at an exception that is on the ground -/
theorem clauses (hs : X.stack = X.env :: X.outer) (hf : X.env.frame = some X.env.locals) (hN : X.N.Nodup) {Wout : WX} (tk : Takes X Wout) {D : Ends} {sI s' : Shared} {a : Addr} {B h3 : Heap} {cls : Value} {d : Option Addr}
    (ok : X.Ok) (J : Inv X pins σ H sI) (nb : ∀ b o, sI.heap.get? b = some o → b ∉ frs X.stack → B.get? b = some o) (na : H a = none) (os : s'.os = sI.os) (ag : AllBare s'.gens)
    (up : sI.heap.UpToSlots s'.heap) (up3 : s'.heap.UpToSlots h3) (fl3 : HandSPX.FlyingZ B (X.env :: X.outer) a (Zc cls d) h3) :
    ∀ {hds : List ExceptHandler} {l : List Cls3}, HdsAs X hds l → wAsN X.K Wout D l cls d σ H → wpAny (model X.prog X.w) X.A (handleBy (.ref a) X.env hds) (SP X pins D) X.xe { s' with heap := h3 } := by
  have J3 : Inv X pins σ H { s' with heap := h3 } := J.landed nb fl3.1 (up.trans up3) os ag
  obtain ⟨oe3, vs3, he3, hz3, hd3⟩ := fl3.there
  have nfr := field_not_frame fl3.2.2.1 he3 hd3
  have nL : a ≠ X.env.locals := fun z => nfr (List.mem_filterMap.mpr ⟨X.env, List.mem_cons_self, by rw [hf, z]⟩)
  have nF : a ∉ X.fs := fun hm => by
    obtain ⟨e, he, q⟩ := List.mem_filterMap.mp hm
    exact nfr (List.mem_filterMap.mpr ⟨e, List.mem_cons_of_mem _ he, q⟩)
  have S3 := J3.suite he3 hd3 na nL nF
  intro hds l hk
  induction hk with
  | nil =>
    intro w
    refine wpAny_handleBy_nil ?_
    obtain ⟨_, _, _, oe, vs, T, oT, _, he, hz, hd, h1, _⟩ := id fl3
    unfold PySem.passOn
    refine wpAny_bind (wpAny_field he hd h1 ?_)
    rw [if_neg (show ¬ ((Value.ref T == Value.none) = true) from by simp)]
    have fin : wpAny (model X.prog X.w) X.A (setFlight (.ref a) X.env.frame) (fun _ s4 => wpAny (model X.prog X.w) X.A (throw (.ref a) : Sem Flow) (SP X pins D) X.xe s4) X.xe { s' with heap := h3 } := by
      rw [hf]
      refine HandSPX.setFlight_upZ fl3 ?_
      intro h4 hh4 up4
      refine wpAny_throw (tk _ _ ?_)
      exact ⟨a, B, sI, pins, σ, H, cls, d, rfl, J, nb, (up.trans up3).trans up4, .inr (.inr (by rw [hs]; exact hh4)), na, os, ag, w⟩
    first
      | exact wpAny_bind (wpAny_pure (wpAny_bind fin))
      | exact wpAny_bind fin
  | @cons x n c i ts b₀ suite np pos' hds2 l2 hi hln hc hsu r ih =>
    intro w
    obtain ⟨b, hb1, hyes, hno⟩ := w
    refine wpAny_handleBy_cons (codeAny_handlers_test ?_) (by intro q; cases q)
    have LT : PySem.W.Looks (model X.prog X.w) h3 (typeOf (.ref a)) cls := fun A Q E s k q => wpAny_typeOf_ref (k _ _ he3) (by rw [hz3.1]; exact q)
    have LM := PySem.W.exm_one (M := model X.prog X.w) (J3.kIn) LT hb1
    have test : ∀ {Q : Value → Shared → Prop} {E : Value → Shared → Prop}, Q c { s' with heap := h3 } →
        wpAny (model X.prog X.w) (X.A.mark (some (.ref a))) (eval (.Name x np) X.env) Q E { s' with heap := h3 } := by
      intro Q E q
      obtain ⟨hg, hdbg, hm | ⟨hm, hv, hnn⟩⟩ := hc
      · exact ld_glob (X := X.suite a ((a, oe3) :: (X.pn ++ pins))) S3 hg hm q hdbg
      · exact ld_blt (X := X.suite a ((a, oe3) :: (X.pn ++ pins))) S3 hg hm hv q hnn hdbg
    refine test (LM.here ?_)
    cases b with
    | false =>
      show wpAny _ X.A (handleBy (.ref a) X.env hds2) _ _ _
      exact ih (hno rfl)
    | true =>
      refine codeAny_handlers_suite_as ?_
      refine HandSPX.lands_againZ fl3 ?_
      intro h4 fl4 up4
      have J4 : Inv X pins σ H { s' with heap := h4 } := J.landed nb fl4.1 ((up.trans up3).trans up4) os ag
      obtain ⟨oe4, vs4, he4, hz4, hd4⟩ := fl4.there
      have S4 := J4.suite he4 hd4 na nL nF
      refine store_ok (X := X.suite a ((a, oe4) :: (X.pn ++ pins))) (v := .ref a) S4 hN hi (.inl hln) rfl ?_ (.inr hln)
      intro s5 S5
      refine wpAny_mono ((hsu a oe4 cls d (X.pn ++ pins) hz4 ⟨_, hd4⟩).run [] s5 _ H _ S5 (hyes rfl a na)) ?_ (fun _ _ z => z.elim)
      intro f s6 hsp
      have end_ : ∀ {σ6 : L2.St} {H6 : Hp} {Q : Shared → Prop}, Inv (X.suite a ((a, oe4) :: (X.pn ++ pins))) [] σ6 H6 s6 → (∀ s7, Inv X pins (σ6.set i none) H6 s7 → Q s7) →
          wpAny (model X.prog X.w) X.A (do bindName X.env n .none; unbindBehindTheSuite X.env n pos') (fun _ s7 => Q s7) X.xe s6 :=
        fun {σ6 H6 Q} S6 hq => gone_ok (S6.unsuite ok) hN hi hln hq
      cases f with
      | ret u =>
        obtain ⟨v6, σ6, H6, S6, r6, q6⟩ := hsp
        exact end_ S6 fun s7 J7 => ⟨_, _, _, J7, r6, q6⟩
      | next =>
        obtain ⟨σ6, H6, S6, q6⟩ := hsp
        exact end_ S6 fun s7 J7 => ⟨_, _, J7, q6⟩
      | brk =>
        obtain ⟨σ6, H6, S6, q6⟩ := hsp
        exact end_ S6 fun s7 J7 => ⟨_, _, J7, q6⟩
      | cont =>
        obtain ⟨σ6, H6, S6, q6⟩ := hsp
        exact end_ S6 fun s7 J7 => ⟨_, _, J7, q6⟩

/-- try: body / except x1 as n1: .. / except x2 as n2: .. -/
theorem ps_try_asN {body : List Stmt} {h₀ : ExceptHandler} {hds : List ExceptHandler} {l : List Cls3} {pos : Pos} {tb : WX → TS} {Wout : WX}
    (hs : X.stack = X.env :: X.outer) (hf : X.env.frame = some X.env.locals) (hN : X.N.Nodup) (tk : Takes X Wout)
    (hb : ∀ (W : WX) (pn : List (Addr × Obj)) (xe : Value → Shared → Prop), Takes (X.tr pn xe) W → PassesOwn (model X.prog X.w) X.A X.env xe → PSs (X.tr pn xe) body (tb W))
    (hh : HdsAs X (h₀ :: hds) l) : PS X (.Try body (h₀ :: hds) [] [] pos) (fun D σ H => tb (wAsN X.K Wout D l) D σ H) := by
  constructor
  intro pins s σ H D I h
  have ok := I.ok
  have hfr : X.A.frames = some (X.env :: X.outer) := by rw [ok.frames, hs]
  refine wpAny_Try_except ?_
  have run := (hb (wAsN X.K Wout D l) (X.pn ++ pins) (fun e s₁ => wpAny (model X.prog X.w) X.A (noteFrame e X.env)
    (fun _ s₂ => wpAny (model X.prog X.w) X.A (setFlight e none) (fun _ s₃ => wpAny (model X.prog X.w) X.A (handleBy e X.env (h₀ :: hds)) (SP X pins D) X.xe s₃) X.xe s₂) X.xe s₁) ?_ PassesOwn.looking).run [] s σ H D (I.toTry _) h
  · refine wpAny_mono run ?_ (fun e s1 he => he)
    intro f s1 hsp
    cases f with
    | next =>
      obtain ⟨σ', H', J', q⟩ := hsp
      exact wpAny_execs_nil ⟨σ', H', J'.ofTry ok, q⟩
    | brk =>
      obtain ⟨σ', H', J', q⟩ := hsp
      exact ⟨σ', H', J'.ofTry ok, q⟩
    | cont =>
      obtain ⟨σ', H', J', q⟩ := hsp
      exact ⟨σ', H', J'.ofTry ok, q⟩
    | ret u =>
      obtain ⟨v, σ', H', J', r, q⟩ := hsp
      exact ⟨v, σ', H', J'.ofTry ok, r, q⟩
  · intro u s' xx
    obtain ⟨a, B, sI, pins', σ', H', cls, d, rfl, J', nb, up, sky, na, os, ag, w⟩ := xx
    have J : Inv X pins σ' H' sI := J'.ofTry ok
    have sky' : Sky B (X.env :: X.outer) a (Zc cls d) X.env.locals s'.heap := by
      rw [← hs]
      exact sky
    show wpAny (model X.prog X.w) X.A (noteFrame (.ref a) X.env) _ _ _
    refine Sky.land Zc.steady hfr hf sky' ?_
    intro h3 fl3 up3
    exact clauses hs hf hN tk ok J nb na os ag up up3 fl3 hh w
end
end Nv

namespace Nv
open PySem PySem.Spec PyProof.Rows L2

/-! own errors with one attribute -/
def spXI (K : PySem.W.Frag) (f : Str) : Sp := fun vs H Q _ => ∃ (a C : Addr) (v : V), vs = [.ref a, v] ∧ OexC K C ∧ PySem.W.findIn K (.ref C) f = some none ∧
  H a = some (exo a C none) ∧ ∀ dx, H dx = none → dx ≠ a → Q .non (upd (upd H dx (exd dx [(f, v)])) a (exo a C (some dx)))
section
variable {P : Program} {w : World} {K : PySem.W.Frag} {mg : Str → Option Value} {base : Heap}
theorem ok_xi {qual f : Str} {st : Stmt} {fI : Addr} {fd : FuncData} {p1 p2 p3 p4 : Pos} (F : Fun K "__init__" qual st fI fd) (S : FnScope ["self", f] ["self", f] (defScope st))
    (hb : defBody st = [.Assign [.Attribute (.Name "self" p1) f p2] (.Name f p3) p4]) (hd : (f == ("__debug__" : Str)) = false) (hcd : (f == ("__classdict__" : Str)) = false) :
    FnOk P w K mg base CX0 1 fI fd ["self", f] (spXI K f) := by
  refine F.ok S (fun vs H Q E h => ?_) (fun cdv A outer s H vs Q E hr h => ?_)
  · obtain ⟨a, C, v, rfl, _⟩ := h
    rfl
  · obtain ⟨a, C, v, rfl, T, hn, he, q⟩ := h
    have v0 : Vis (defScope st) "self" := by
      rcases S.par "self" (by simp) with z | z
      · exact .inl z
      · exact .inr (.inl z)
    have v1 : Vis (defScope st) f := by
      rcases S.par f (by simp) with z | z
      · exact .inl z
      · exact .inr (.inl z)
    rw [hb]
    refine ⟨_, pss_one (ps_ost (pe_var (i := 0) rfl v0) (pe_var (i := 1) rfl v1 hd hcd) rfl), ?_⟩
    exact ⟨_, rfl, _, rfl, a, C, rfl, T, hn, .inl ⟨he, fun dx h1 h2 => q dx h1 h2⟩⟩
end
/-- what stands of an own error class with one attribute f: at C, its __init__ at fI -/
structure ErrT (K : PySem.W.Frag) (mg : Str → Option Value) (x f : Str) (C fI : Addr) : Prop where
  gC : mg x = some (.ref C)
  T : OexC K C
  iC : PySem.W.findIn K (.ref C) "__init__" = some (some (.ref fI))
  tI : PySem.W.typeIn K (.ref fI) = some (.type "function")
  noF : PySem.W.findIn K (.ref C) f = some none
  nv : PySem.W.NvCls K C
theorem ErrT.xf {K : PySem.W.Frag} {mg : Str → Option Value} {x f : Str} {C fI : Addr} (T : ErrT K mg x f C fI) : XfC K C := ⟨T.nv.ga, T.nv.gt, T.nv.sub, T.nv.dct⟩
section
variable {X : Cx} {W : WX} {e : Expr} {te : TE} {p pos pos2 : Pos} {x f : Str} {C fI : Addr} {fd : FuncData}
theorem pmk_imp {t t' : L2.St → Hp → XK → Prop} (h : PMk X e t) (i : ∀ σ H Q, t' σ H Q → t σ H Q) : PMk X e t' := fun pins s σ H Q I q => h pins s σ H Q I (i _ _ _ q)
/-- C(e): a new error -/
def tErr (C : Addr) (f : Str) (te : TE) : L2.St → Hp → XK → Prop := fun σ H Q => te σ H fun v H1 => ∀ d, H1 d = none → Q (.ref C) (some d) (upd H1 d (.xd [(f, v)]))
theorem exo_end {H1 : Hp} {a dx C : Addr} {f : Str} {v : V} (na : H1 a = none) (nd : dx ≠ a) : upd (del (upd (upd (upd H1 a (exo a C none)) dx (exd dx [(f, v)])) a (exo a C (some dx))) a) dx (.xd [(f, v)]) = upd H1 dx (.xd [(f, v)]) := by
  funext b
  by_cases h : b = dx
  · subst h
    rw [upd_same, upd_same]
  · rw [upd_ne h, upd_ne h]
    by_cases g : b = a
    · subst g
      rw [del_same, na]
    · rw [del_ne g, upd_ne g, upd_ne h, upd_ne g]
/-- one argument, its reading made monotone -/
theorem pa_any (he : PE X e te) (hs : starEach (e :: []) X.env = (false, eval e X.env) :: starEach [] X.env := by rfl) :
    PA X [e] (fun σ H Q => ∃ R : V → Hp → Prop, te σ H R ∧ ∀ v H1, R v H1 → Q [v] H1) := by
  constructor
  intro pos pins s σ H Q I ⟨R, h, k⟩
  have z := (pa_cons he pa_nil hs).run pos pins s σ H (fun vs H1 => ∃ v, vs = [v] ∧ R v H1) I
  have z2 : te σ H (fun v H1 => R v H1) := h
  have he2 : PE X e (fun σ' H' Q' => te σ' H' R ∧ ∀ v H1, R v H1 → Q' v H1) := by
    constructor
    intro pins s σ H Q I ⟨h1, h2⟩
    exact thn (he.run pins s σ H R I h1) fun u s1 ⟨v, H1, I1, r, q⟩ => ⟨v, H1, I1, r, h2 v H1 q⟩
  exact (pa_cons he2 pa_nil hs).run pos pins s σ H Q I ⟨h, fun v H1 q => k v H1 q⟩
theorem pmk_err (T : ErrT X.K X.mg x f C fI) (F : FnOk X.prog X.w X.K X.mg X.base CX0 1 fI fd ["self", f] (spXI X.K f)) (hb : Binds X.K fd ["self", f] []) (hr : Room 2 X.A) (he : PE X e te) (hg : Gl X x := by rfl)
    (hdb : (x == ("__debug__" : Str)) = false := by decide) (hs : starEach (e :: []) X.env = (false, eval e X.env) :: starEach [] X.env := by rfl) (hpl : (backTo pos (starEach [] X.env)).any (·.1) = false := by rfl) :
    PMk X (.Call (.Name x p) [e] [] pos) (tErr C f te) := by
  refine pmk_imp (pmk_oex (CX := CX0) (dvs := []) (ds := []) T.T T.iC T.tI F hr hb .nil pass0 hg T.gC (pa_any he hs) hdb hs hpl) ?_
  intro σ H Q h
  refine ⟨_, h, fun v H1 k => ⟨by show 1 ≤ 1000; decide, fun a na => ?_⟩⟩
  refine ⟨a, C, v, rfl, T.T, T.noF, upd_same, fun dx h1 h2 => ⟨rfl, dx, [(f, v)], upd_same, ?_, ?_, ?_⟩⟩
  · rw [upd_ne h2, upd_same]
  · rw [upd_ne h2] at h1
    exact h1
  · rw [exo_end na h2]
    rw [upd_ne h2] at h1
    exact k dx h1
/-- raise C(e) -/
def tRaise1 (C : Addr) (f : Str) (W : WX) (te : TE) : TS := fun _ σ H => tErr C f te σ H fun cls d H' => W cls d σ H'
theorem ps_err (hc : X.calm = true) (tk : Takes X W) (T : ErrT X.K X.mg x f C fI) (F : FnOk X.prog X.w X.K X.mg X.base CX0 1 fI fd ["self", f] (spXI X.K f)) (hb : Binds X.K fd ["self", f] []) (hr : Room 2 X.A) (he : PE X e te) (hg : Gl X x := by rfl)
    (hdb : (x == ("__debug__" : Str)) = false := by decide) (hs : starEach (e :: []) X.env = (false, eval e X.env) :: starEach [] X.env := by rfl) (hpl : (backTo pos (starEach [] X.env)).any (·.1) = false := by rfl) :
    PS X (.Raise (some (.Call (.Name x p) [e] [] pos)) none pos2) (tRaise1 C f W te) := ps_raise hc tk (pmk_err T F hb hr he hg hdb hs hpl)
end

/-! displays whose place is not that of sys.modules -/
section
variable {X : Cx} {es : List Expr} {t : TA} {pos : Pos}
def tLst1 (t : TA) : TE := fun σ H Q => t σ H fun xs H1 => xs.length ≤ sizeLine ∧ ∀ p, H1 p = none → p ≠ sysModules → Q (.ref p) (upd H1 p (.lst xs))
theorem pe_lst1 (h : PA X es t) : PE X (.List es pos) (tLst1 t) := by
  constructor
  intro pins s σ H Q I hq
  refine wpAny_List_spliced (thn (h.run pos pins s σ H _ I hq) ?_)
  intro us s1 ⟨xs, H1, I1, r, z, q⟩
  have hf : H1 s1.heap.objs.size = none := I1.hok.fresh (Nat.le_refl _)
  refine ⟨by rw [← r.length]; exact z, ?_⟩
  refine ⟨.ref s1.heap.objs.size, upd H1 s1.heap.objs.size (.lst xs), I1.laid (t' := s1.toks) (fun b u e => Heap.get?_push_of_some _ e) (Nat.le_refl _) ?_, rfl, q _ hf (Nat.ne_of_gt I1.big)⟩
  exact ⟨z, us, 0, r, Heap.get?_push_size _ rfl⟩
end
end Nv

namespace Nv
open PySem PySem.Spec PyProof.Rows L2

/-! a def, a method, an __init__ of the text as they stand behind the top -/
structure DefT (K : PySem.W.Frag) (mg : Str → Option Value) (x : Str) (st : Stmt) (ps : List Str) : Type where
  f : Addr
  fd : FuncData
  F : Fun K x x st f fd
  m : mg x = some (.ref f)
  b : Pos1 fd ps
structure MethT (K : PySem.W.Frag) (C : Addr) (x qual : Str) (st : Stmt) (ps : List Str) : Type where
  f : Addr
  fd : FuncData
  F : Fun K x qual st f fd
  me : Meth K C x f
  b : Pos1 fd ps
  kb : Kw1 fd ps ps.tail 1
structure InitT (K : PySem.W.Frag) (C : Addr) (qual : Str) (st : Stmt) (ps : List Str) : Type where
  f : Addr
  fd : FuncData
  F : Fun K "__init__" qual st f fd
  bi : Binds K fd ps []
structure PropT (K : PySem.W.Frag) (C : Addr) (x qual : Str) (st : Stmt) : Type where
  p : Addr
  g : Addr
  fd : FuncData
  F : Fun K x qual st g fd
  po : PropOf K C x p g
  bi : Binds K fd ["self"] []

/-- a body that lets nothing out -/
theorem okG0 {P : Program} {w : World} {K : PySem.W.Frag} {mg : Str → Option Value} {base : Heap} {k : Nat} {f : Addr} {fd : FuncData} {ps : List Str} {sp : Sp} {x qual : Str} {st : Stmt} {N : List Str}
    (F : Fun K x qual st f fd) (S : FnScope N ps (defScope st)) (len : ∀ vs H Q E, sp vs H Q E → vs.length = ps.length)
    (body : ∀ (cdv : Value) (A : Around) (outer : List Env) (s : Shared) (H : Hp) (vs : List V) (Q : VK) (E : XK),
      A.guards = some [] → Room k (A.deeper (envOfC qual (defScope st) s.heap.objs.size f cdv)) → sp vs H Q E →
      ∃ t, PSs (cxOf (L2.CX P w) P w K mg base N qual (defScope st) f cdv A outer s H E).nox (defBody st) t ∧
        t { nx := fun _ H' => Q .non H', rt := Q } (start N vs) H) : FnG P w K mg base (k + 1) f fd ps sp :=
  okG F S len fun cdv A outer s H vs Q E hg hr hsp => by
    obtain ⟨t, h, q⟩ := body cdv A outer s H vs Q E hg hr hsp
    exact ⟨t, h.nox, q⟩

/-! the kinds of data -/
def tyName : PyData → String
  | .none => "NoneType"
  | .bool _ => "bool"
  | .int _ => "int"
  | .str _ => "str"
  | .list _ => "list"
  | .tuple _ => "tuple"
  | .dict _ => "dict"
theorem DV.ty {K : PySem.W.Frag} {H : Hp} {v : V} {d : PyData} (h : DV H v d) : TyX K H v (.type (tyName d)) := by
  cases h with
  | non => exact .base .non
  | bl b => exact .base (.bl b)
  | int i => exact .base (.int i)
  | str x => exact .base (.str x)
  | lst e _ _ => exact .base (.lst e)
  | tup e _ => exact .base (.tup e)
  | dct e _ => exact .base (.dK e)
theorem r_isi {K : PySem.W.Frag} {H : Hp} {Q : VK} {v : V} {d : PyData} {T : String} {b : Bool} (h : DV H v d) (e : kitB (tyName d) T = some b) (q : Q (.bl b) H) : rIsi K [v, .ty T] H Q :=
  ⟨v, .ty T, _, _, b, rfl, .ty T, h.ty, kit_ty e, q⟩
def isI : PyData → Bool
  | .int _ => true
  | _ => false
def isB : PyData → Bool
  | .bool _ => true
  | _ => false
def isS : PyData → Bool
  | .str _ => true
  | _ => false
def isL : PyData → Bool
  | .list _ => true
  | _ => false
theorem kit_int (d : PyData) : kitB (tyName d) "int" = some (isI d || isB d) := by
  cases d with
  | none => exact (by decide +kernel : kitB "NoneType" "int" = some false)
  | bool b => exact (by decide +kernel : kitB "bool" "int" = some true)
  | int i => exact (by decide +kernel : kitB "int" "int" = some true)
  | str x => exact (by decide +kernel : kitB "str" "int" = some false)
  | list l => exact (by decide +kernel : kitB "list" "int" = some false)
  | tuple l => exact (by decide +kernel : kitB "tuple" "int" = some false)
  | dict l => exact (by decide +kernel : kitB "dict" "int" = some false)
theorem kit_bool (d : PyData) : kitB (tyName d) "bool" = some (isB d) := by
  cases d with
  | none => exact (by decide +kernel : kitB "NoneType" "bool" = some false)
  | bool b => exact (by decide +kernel : kitB "bool" "bool" = some true)
  | int i => exact (by decide +kernel : kitB "int" "bool" = some false)
  | str x => exact (by decide +kernel : kitB "str" "bool" = some false)
  | list l => exact (by decide +kernel : kitB "list" "bool" = some false)
  | tuple l => exact (by decide +kernel : kitB "tuple" "bool" = some false)
  | dict l => exact (by decide +kernel : kitB "dict" "bool" = some false)
theorem kit_str (d : PyData) : kitB (tyName d) "str" = some (isS d) := by
  cases d with
  | none => exact (by decide +kernel : kitB "NoneType" "str" = some false)
  | bool b => exact (by decide +kernel : kitB "bool" "str" = some false)
  | int i => exact (by decide +kernel : kitB "int" "str" = some false)
  | str x => exact (by decide +kernel : kitB "str" "str" = some true)
  | list l => exact (by decide +kernel : kitB "list" "str" = some false)
  | tuple l => exact (by decide +kernel : kitB "tuple" "str" = some false)
  | dict l => exact (by decide +kernel : kitB "dict" "str" = some false)
theorem kit_list (d : PyData) : kitB (tyName d) "list" = some (isL d) := by
  cases d with
  | none => exact (by decide +kernel : kitB "NoneType" "list" = some false)
  | bool b => exact (by decide +kernel : kitB "bool" "list" = some false)
  | int i => exact (by decide +kernel : kitB "int" "list" = some false)
  | str x => exact (by decide +kernel : kitB "str" "list" = some false)
  | list l => exact (by decide +kernel : kitB "list" "list" = some true)
  | tuple l => exact (by decide +kernel : kitB "tuple" "list" = some false)
  | dict l => exact (by decide +kernel : kitB "dict" "list" = some false)

/-! str * int -/
def rMulS : R2 := fun x y H Q => ∃ (z : Str) (k : Int), x = .str z ∧ y = .int k ∧ PySem.MulOk z k ∧ Q (.str (Txt.mul z k)) H
theorem op_mul_str {X : Cx} : OpR X (binaryOp .Mult) rMulS := by
  intro pins s σ H x y v u Q I rx ry h
  obtain ⟨z, k, rfl, rfl, hok, q⟩ := h
  obtain ⟨t, rfl⟩ := (show ∃ t, v = Value.str z t from rx)
  obtain ⟨t2, rfl⟩ := (show ∃ t, u = Value.int k t from ry)
  exact PySem.SB.mul hok fun t' tk => ⟨.str (Txt.mul z k), H, I.tok tk, ⟨t', rfl⟩, q⟩

/-! heaps -/
/-- all that was tracked stands as it was, but what stands at p -/
def Ext1 (p : Addr) (H H' : Hp) : Prop := ∀ a o, a ≠ p → H a = some o → H' a = some o
theorem Ext1.refl (p : Addr) (H : Hp) : Ext1 p H H := fun _ _ _ h => h
theorem Ext1.trans {p : Addr} {H H1 H2 : Hp} (a : Ext1 p H H1) (b : Ext1 p H1 H2) : Ext1 p H H2 := fun c o n h => b c o n (a c o n h)
theorem Same.ext1 {p : Addr} {H H' : Hp} (e : Same H H') : Ext1 p H H' := fun a o _ h => e a o h
theorem Same.new {H : Hp} {p : Addr} {o : HO} (n : H p = none) : Same H (upd H p o) := fun b u e => by
  rw [upd_ne (ne_of_none e n)]
  exact e
theorem Ext1.upd {p : Addr} {H : Hp} {o : HO} : Ext1 p H (upd H p o) := fun a u n h => by
  rw [upd_ne n]
  exact h
end Nv

namespace Nv
open PySem PySem.Spec PyProof.Rows L2

/-! what a step asks of the heap, kept whole -/
def rFld (K : PySem.W.Frag) (f : Str) : V → Hp → VK → Prop := fun x H Q => ∃ a C dx fs v, x = .ref a ∧ H a = some (.ins C dx fs) ∧ Cls K C ∧ NoAttr K C f ∧ fs.lookup f = some v ∧ Q v H
def rStF (K : PySem.W.Frag) (f : Str) : V → V → Hp → (Hp → Prop) → Prop := fun x y H R => ∃ a C dx fs, x = .ref a ∧ H a = some (.ins C dx fs) ∧ Cls K C ∧ NoAttr K C f ∧ fs.length < 1000 ∧ R (upd H a (.ins C dx (putF f y fs)))
def rMeth (C : Addr) (m : Str) : V → Hp → (Hp → Prop) → Prop := fun x H R => ∃ a dx fs, x = .ref a ∧ H a = some (.ins C dx fs) ∧ fs.lookup m = none ∧ R H
def rPrp (C : Addr) (sp : Sp) (dvs : List V) (E : XK) : V → Hp → VK → Prop := fun x H Q => ∃ a dx fs, x = .ref a ∧ H a = some (.ins C dx fs) ∧ sp (.ref a :: dvs) H Q E
/-- a new object's heap by a name of its own -/
theorem gen_new {H : Hp} {p : Addr} (o : HO) (h : H p = none) : ∃ H', upd H p o = H' ∧ Same H H' ∧ H' p = some o :=
  ⟨_, rfl, fun b u e => by rw [upd_ne (ne_of_none e h)]; exact e, upd_same⟩
def rXf (a : Addr) (cls : Value) (d : Option Addr) (C : Addr) (f : Str) : V → Hp → VK → Prop := fun x H Q => x = .ref a ∧ cls = .ref C ∧ ∃ (dd : Addr) (fs : List (Str × V)) (v : V), d = some dd ∧ H dd = some (.xd fs) ∧ fs.lookup f = some v ∧ Q v H
theorem e_xf {a : Addr} {cls : Value} {d : Option Addr} {C : Addr} {f : Str} {te : TE} {σ : L2.St} {H : Hp} {Q : VK} : tXf a cls d C f te σ H Q = te σ H (fun x H1 => rXf a cls d C f x H1 Q) := rfl
theorem r_xf {a dd C : Addr} {f : Str} {v : V} {H : Hp} {Q : VK} (h : H dd = some (.xd [(f, v)])) (q : Q v H) : rXf a (.ref C) (some dd) C f (.ref a) H Q :=
  ⟨rfl, rfl, dd, _, v, rfl, h, by simp [List.lookup], q⟩
theorem r_isX {K : PySem.W.Frag} {D U dd a : Addr} {f : Str} {v : V} {H : Hp} {Q : VK} {b : Bool} (n : PySem.W.NvCls K D) (k : PySem.W.kitOne K (.ref D) (.ref U) = some b) (h : H dd = some (.xd [(f, v)])) (q : Q (.bl b) H) :
    rIsXd K (.ref D) (some dd) a [.ref a, .ref U] H Q := ⟨D, .ref U, .ref U, b, rfl, rfl, n, fun u r => r, k, fun x e => by cases e; exact ⟨_, h⟩, q⟩
theorem e_wipe0 {σ : L2.St} : wipe σ [] = σ := rfl
theorem e_wipe1 {σ : L2.St} {v : Nat} {vs : List Nat} : wipe σ (v :: vs) = (wipe σ vs).set v none := rfl
theorem e_disp {trs : List (TE × TE)} {σ : L2.St} {H : Hp} {Q : VK} : tDisp trs σ H Q = ∀ p, H p = none → tPairs trs σ (upd H p (.dK [])) fun ps H2 => H2 p = some (.dK []) ∧ ∃ kvs : List (Key × V), ps = kvs.map (fun kv => (kV kv.1, kv.2)) ∧ kvs.length ≤ 15 ∧ Q (.ref p) (upd H2 p (.dK (mergeK [] kvs))) := rfl
theorem e_tyes {σ : L2.St} {H : Hp} {R : Bool → Hp → Prop} : tYes σ H R = R true H := rfl
def rP2 (k : V → V → Prop) (vs : List V) : Prop := ∃ v w, vs = [v, w] ∧ k v w
def rP3 (k : V → V → V → Prop) (vs : List V) : Prop := ∃ u v w, vs = [u, v, w] ∧ k u v w
theorem e_rP2 {k : V → V → Prop} {a b : V} : rP2 k [a, b] = k a b := propext ⟨fun ⟨_, _, e, h⟩ => by cases e; exact h, fun h => ⟨_, _, rfl, h⟩⟩
theorem e_rP3 {k : V → V → V → Prop} {a b c : V} : rP3 k [a, b, c] = k a b c := propext ⟨fun ⟨_, _, _, e, h⟩ => by cases e; exact h, fun h => ⟨_, _, _, rfl, h⟩⟩
def rUnp (K : PySem.W.Frag) (n : Nat) : V → Hp → (List V → Prop) → Prop := fun v H R => ∃ a xs, v = .ref a ∧ SqT K H a xs ∧ xs.length = n ∧ R xs
theorem r_fld {K : PySem.W.Frag} {f : Str} {a C dx : Addr} {fs : List (Str × V)} {v : V} {H : Hp} {Q : VK} (h : H a = some (.ins C dx fs)) (c : Cls K C) (n : NoAttr K C f) (l : fs.lookup f = some v) (q : Q v H) : rFld K f (.ref a) H Q :=
  ⟨a, C, dx, fs, v, rfl, h, c, n, l, q⟩
theorem r_stF {K : PySem.W.Frag} {f : Str} {a C dx : Addr} {fs : List (Str × V)} {y : V} {H : Hp} {R : Hp → Prop} (h : H a = some (.ins C dx fs)) (c : Cls K C) (n : NoAttr K C f) (l : fs.length < 1000) (q : R (upd H a (.ins C dx (putF f y fs)))) : rStF K f (.ref a) y H R :=
  ⟨a, C, dx, fs, rfl, h, c, n, l, q⟩
theorem r_meth {C a dx : Addr} {m : Str} {fs : List (Str × V)} {H : Hp} {R : Hp → Prop} (h : H a = some (.ins C dx fs)) (l : fs.lookup m = none) (q : R H) : rMeth C m (.ref a) H R := ⟨a, dx, fs, rfl, h, l, q⟩
theorem r_prp {C a dx : Addr} {sp : Sp} {dvs : List V} {E : XK} {fs : List (Str × V)} {H : Hp} {Q : VK} (h : H a = some (.ins C dx fs)) (q : sp (.ref a :: dvs) H Q E) : rPrp C sp dvs E (.ref a) H Q := ⟨a, dx, fs, rfl, h, q⟩
theorem r_unp {K : PySem.W.Frag} {n : Nat} {a : Addr} {xs : List V} {H : Hp} {R : List V → Prop} (h : SqT K H a xs) (l : xs.length = n) (q : R xs) : rUnp K n (.ref a) H R := ⟨a, xs, rfl, h, l, q⟩
theorem r_setL {p : Addr} {i : Int} {xs : List V} {j : Nat} {v : V} {H : Hp} {R : Hp → Prop} (h : H p = some (.lst xs)) (e : ixN xs.length i = some j) (q : R (upd H p (.lst (xs.set j v)))) : rSetL (.ref p) (.int i) v H R := ⟨p, xs, i, j, rfl, rfl, h, e, q⟩
/-! the readings, one step each, as equations -/
section
variable {σ : L2.St} {H : Hp} {Q : VK} {D : Ends} {t u : TS} {ta tb te tc : TE} {tt tu : TT} {tr : TA} {to th tl : TO} {i j l : Nat} {v x y : V} {r : R2} {K : PySem.W.Frag} {f : Str} {g : TG} {gs : TGs}
theorem e_seq : tSeq t u D σ H = t { D with nx := u D } σ H := rfl
theorem e_next : tNext D σ H = D.nx σ H := rfl
theorem e_asg : tAsg te g D σ H = te σ H (fun x H1 => g x σ H1 D.nx) := rfl
theorem e_gname {R : L2.St → Hp → Prop} : gName i v σ H R = R (σ.set i (some v)) H := rfl
theorem e_gtup {n : Nat} {R : L2.St → Hp → Prop} : gTup K n gs v σ H R = rUnp K n v H (fun xs => gs xs σ H R) := rfl
theorem e_gcons {a : V} {vs : List V} {R : L2.St → Hp → Prop} : gCons g gs (a :: vs) σ H R = g a σ H (fun σ' H' => gs vs σ' H' R) :=
  propext ⟨fun ⟨_, _, e, h⟩ => by cases e; exact h, fun h => ⟨_, _, rfl, h⟩⟩
theorem e_gnil {R : L2.St → Hp → Prop} : gNil [] σ H R = R σ H := propext ⟨fun h => h.2, fun h => ⟨rfl, h⟩⟩
theorem e_gsub {s : TSet} {R : L2.St → Hp → Prop} : gSub ta tb s v σ H R = ta σ H (fun o H1 => tb σ H1 fun i H2 => s o i v H2 fun H3 => R σ H3) := rfl
theorem e_ret : tRet te D σ H = te σ H D.rt := rfl
theorem e_retN : tRetN D σ H = D.rt .non H := rfl
theorem e_if : tIfS tt t u D σ H = tt σ H (fun b H1 => if b = true then t D σ H1 else u D σ H1) := rfl
theorem e_drop : tDrop te D σ H = te σ H (fun _ H1 => D.nx σ H1) := rfl
theorem e_par : tPar i j tr D σ H = tr σ H (fun vs H1 => rP2 (fun v w => D.nx ((σ.set i (some v)).set j (some w)) H1) vs) := rfl
theorem e_par3 : tPar3 i j l tr D σ H = tr σ H (fun vs H1 => rP3 (fun u v w => D.nx (((σ.set i (some u)).set j (some v)).set l (some w)) H1) vs) := rfl
theorem e_sfld : sFld K ta te f D σ H = te σ H (fun y H1 => ta σ H1 fun x H2 => rStF K f x y H2 fun H3 => D.nx σ H3) := rfl
theorem e_var : tVar i σ H Q = ∃ v, σ[i]? = some (some v) ∧ Q v H := rfl
theorem e_c : tC v σ H Q = Q v H := rfl
theorem e_op : tOp r ta tb σ H Q = ta σ H (fun x H1 => tb σ H1 fun y H2 => r x y H2 Q) := rfl
theorem e_un {ru : V → Hp → VK → Prop} : tUn ru ta σ H Q = ta σ H (fun x H1 => ru x H1 Q) := rfl
theorem e_ri {C : Int → Int → Prop} {g : Int → Int → V} {a b : Int} : rI C g (.int a) (.int b) H Q = (C a b ∧ Q (g a b) H) :=
  propext ⟨fun ⟨_, _, e1, e2, c, q⟩ => by cases e1; cases e2; exact ⟨c, q⟩, fun ⟨c, q⟩ => ⟨_, _, rfl, rfl, c, q⟩⟩
theorem e_ri0 {g : Int → Int → V} {a b : Int} : rI0 g (.int a) (.int b) H Q = Q (g a b) H :=
  propext ⟨fun ⟨_, _, e1, e2, q⟩ => by cases e1; cases e2; exact q, fun q => ⟨_, _, rfl, rfl, q⟩⟩
theorem e_ru {g : Int → V} {a : Int} : rU g (.int a) H Q = Q (g a) H :=
  propext ⟨fun ⟨_, e1, q⟩ => by cases e1; exact q, fun q => ⟨_, rfl, q⟩⟩
theorem e_eq : rEq x y H Q = (scal x y = true ∧ Q (.bl (decide (x = y))) H) := rfl
theorem e_ne : rNe x y H Q = (scal x y = true ∧ Q (.bl (!decide (x = y))) H) := rfl
theorem e_test {R : Bool → Hp → Prop} : tTest te σ H R = te σ H (fun x H' => ∃ k, x = .bl k ∧ R k H') := rfl
theorem e_B {R : Bool → Hp → Prop} : tB te σ H R = te σ H (fun x H1 => ∃ c, x = .bl c ∧ R c H1) := rfl
theorem e_and {R : Bool → Hp → Prop} : tAnd tt tu σ H R = tt σ H (fun c H1 => if c = true then tu σ H1 R else R false H1) := rfl
theorem e_or {R : Bool → Hp → Prop} : tOr tt tu σ H R = tt σ H (fun c H1 => if c = true then R true H1 else tu σ H1 R) := rfl
theorem e_not {R : Bool → Hp → Prop} : tNot tt σ H R = tt σ H (fun c H1 => R (!c) H1) := rfl
theorem e_andV : tAndV ta tb σ H Q = ta σ H (fun x H1 => ∃ c, x = .bl c ∧ if c = true then tb σ H1 Q else Q (.bl false) H1) := rfl
theorem e_orV : tOrV ta tb σ H Q = ta σ H (fun x H1 => ∃ c, x = .bl c ∧ if c = true then Q (.bl true) H1 else tb σ H1 Q) := rfl
theorem e_notV : tNotV ta σ H Q = ta σ H (fun x H1 => ∃ c, x = .bl c ∧ Q (.bl (!c)) H1) := rfl
theorem e_ifE : tIf tt ta tb σ H Q = tt σ H (fun c H1 => if c = true then ta σ H1 Q else tb σ H1 Q) := rfl
theorem e_cb {rc : List V → Hp → VK → Prop} : tCB rc tr σ H Q = tr σ H (fun vs H1 => rc vs H1 Q) := rfl
theorem e_nil {R : List V → Hp → Prop} : tNil σ H R = R [] H := rfl
theorem e_cons {R : List V → Hp → Prop} : tCons ta tr σ H R = ta σ H (fun x H1 => tr σ H1 fun xs H2 => R (x :: xs) H2) := rfl
theorem e_tup : tTup tr σ H Q = tr σ H (fun xs H1 => xs.length ≤ sizeLine ∧ ∀ p, H1 p = none → Q (.ref p) (upd H1 p (.tup xs))) := rfl
theorem e_lst1 : tLst1 tr σ H Q = tr σ H (fun xs H1 => xs.length ≤ sizeLine ∧ ∀ p, H1 p = none → p ≠ sysModules → Q (.ref p) (upd H1 p (.lst xs))) := rfl
theorem e_fld : tFld K ta f σ H Q = ta σ H (fun x H1 => rFld K f x H1 Q) := rfl
theorem e_slice {rs : V → Option Int → Option Int → Hp → VK → Prop} : L2.tSl rs te tl th σ H Q = te σ H (fun x H1 => tl σ H1 fun a H2 => th σ H2 fun b H3 => rs x a b H3 Q) := rfl
theorem e_nopart {R : Option Int → Hp → Prop} : tNoPart σ H R = R none H := rfl
theorem e_part {R : Option Int → Hp → Prop} : tPart te σ H R = te σ H (fun x H1 => ∃ i, x = .int i ∧ R (some i) H1) := rfl
theorem e_bm0 {T : String} {rm : V → List V → Hp → VK → Prop} : tBM0 K T rm te σ H Q = te σ H (fun x H1 => tyV K T x H1 ∧ rm x [] H1 Q) := rfl
theorem e_bm {T : String} {rm : V → List V → Hp → VK → Prop} : tBM K T rm te tr σ H Q = te σ H (fun x H1 => tyV K T x H1 ∧ tr σ H1 fun xs H2 => rm x xs H2 Q) := rfl
theorem e_m1 {rm : V → List V → Hp → VK → Prop} : tM1 rm ta te σ H Q = ta σ H (fun x H1 => (∃ a, x = .str a) ∧ te σ H1 fun y H2 => rm x [y] H2 Q) := rfl
theorem e_cg {sp : Sp} {W : WX} : tCG sp W tr σ H Q = tr σ H (fun vs H1 => sp vs H1 Q (WE W σ)) := rfl
theorem e_mg {C : Addr} {m : Str} {sp : Sp} {W : WX} : tMG C m sp W ta tr σ H Q = ta σ H (fun x H1 => rMeth C m x H1 fun H1' => tr σ H1' fun vs H2 => sp (x :: vs) H2 Q (WE W σ)) :=
  by
    unfold tMG rMeth
    rfl
theorem e_make {C : Addr} {sp : Sp} {dvs : List V} {E : XK} : tMake C sp dvs E tr σ H Q = tr σ H (fun vs H1 => ∀ x dx, H1 x = none → H1 dx = none → dx ≠ x →
  sp (.ref x :: (vs ++ dvs)) (upd (upd H1 dx (.own x)) x (.ins C dx [])) (fun v H2 => v = .non ∧ Q (.ref x) H2) E) := rfl
theorem e_prop {C : Addr} {sp : Sp} {dvs : List V} {E : XK} : tProp C sp dvs E ta σ H Q = ta σ H (fun x H1 => rPrp C sp dvs E x H1 Q) := rfl
theorem e_raise1 {C : Addr} {W : WX} : tRaise1 C f W te D σ H = te σ H (fun v H1 => ∀ d, H1 d = none → W (.ref C) (some d) σ (upd H1 d (.xd [(f, v)]))) := rfl
theorem e_chain {r' : R2} : tChain r r' ta tb tc σ H Q = ta σ H (fun x H1 => tb σ H1 fun y H2 => r x y H2 fun z H3 => ∃ k, z = .bl k ∧ (if k = true then tc σ H3 fun w' H4 => r' y w' H4 Q else Q (.bl false) H3)) := rfl
theorem e_mulS {z : Str} {k : Int} : rMulS (.str z) (.int k) H Q = (PySem.MulOk z k ∧ Q (.str (Txt.mul z k)) H) :=
  propext ⟨fun ⟨_, _, e1, e2, c, q⟩ => by cases e1; cases e2; exact ⟨c, q⟩, fun ⟨c, q⟩ => ⟨_, _, rfl, rfl, c, q⟩⟩
theorem e_slS {z : Str} {lo hi : Option Int} : rSlS (.str z) lo hi H Q = (z.length ≤ sizeLine ∧ Q (.str (cutS z lo hi)) H) :=
  propext ⟨fun ⟨_, e1, c, q⟩ => by cases e1; exact ⟨c, q⟩, fun ⟨c, q⟩ => ⟨_, rfl, c, q⟩⟩
theorem e_ixL {p : Addr} {i : Int} : rIxL K (.ref p) (.int i) H Q = ∃ xs v, SqL K H p xs ∧ atI xs i = some v ∧ Q v H :=
  propext ⟨fun ⟨_, xs, _, v, e1, e2, c, d, q⟩ => by cases e1; cases e2; exact ⟨xs, v, c, d, q⟩, fun ⟨xs, v, c, d, q⟩ => ⟨_, xs, _, v, rfl, rfl, c, d, q⟩⟩
theorem e_ixT {p : Addr} {i : Int} : rIxT K (.ref p) (.int i) H Q = ∃ xs v, SqT K H p xs ∧ atI xs i = some v ∧ Q v H :=
  propext ⟨fun ⟨_, xs, _, v, e1, e2, c, d, q⟩ => by cases e1; cases e2; exact ⟨xs, v, c, d, q⟩, fun ⟨xs, v, c, d, q⟩ => ⟨_, xs, _, v, rfl, rfl, c, d, q⟩⟩
theorem e_ixS {z : Str} {i : Int} : rIxS (.str z) (.int i) H Q = ∃ c, z.length ≤ sizeLine ∧ atI z.cps.toList i = some c ∧ Q (.str ⟨#[c]⟩) H :=
  propext ⟨fun ⟨_, _, c, e1, e2, d, a, q⟩ => by cases e1; cases e2; exact ⟨c, d, a, q⟩, fun ⟨c, d, a, q⟩ => ⟨_, _, c, rfl, rfl, d, a, q⟩⟩
theorem e_setL {p : Addr} {k : Int} {R : Hp → Prop} : rSetL (.ref p) (.int k) v H R = ∃ xs j, H p = some (.lst xs) ∧ ixN xs.length k = some j ∧ R (upd H p (.lst (xs.set j v))) :=
  propext ⟨fun ⟨_, xs, _, j, e1, e2, c, d, q⟩ => by cases e1; cases e2; exact ⟨xs, j, c, d, q⟩, fun ⟨xs, j, c, d, q⟩ => ⟨_, xs, _, j, rfl, rfl, c, d, q⟩⟩
theorem r_ixL {p : Addr} {i : Int} {xs : List V} {v : V} (h : SqL K H p xs) (e : atI xs i = some v) (q : Q v H) : rIxL K (.ref p) (.int i) H Q := ⟨_, xs, _, v, rfl, rfl, h, e, q⟩
theorem r_ixT {p : Addr} {i : Int} {xs : List V} {v : V} (h : SqT K H p xs) (e : atI xs i = some v) (q : Q v H) : rIxT K (.ref p) (.int i) H Q := ⟨_, xs, _, v, rfl, rfl, h, e, q⟩
end
theorem e_cxK {CX : CXT} {P : Program} {w : World} {mg : Str → Option Value} {base : Heap} {N : List Str} {qual : Str} {scope : Scope} {f : Addr} {cd : Value} {A : Around} {outer : List Env} {s : Shared} {H : Hp} {E : XK} {K : PySem.W.Frag} :
    (cxOf CX P w K mg base N qual scope f cd A outer s H E).K = K := rfl
theorem e_pt {R : Bool → Hp → Prop} {σ : L2.St} {H : Hp} {t : TT} {b : Bool} (h : t σ H R) : t σ H R := h
/-- int(n), n an int -/
theorem call_intI {X : Cx} : CallR X (.type "int") (fun xs H Q => ∃ i, xs = [.int i] ∧ Q (.int i) H) := by
  intro pins s σ H xs us Q I r h
  obtain ⟨i, e, q⟩ := h
  exact call_int1 pins s σ H xs us Q I r (.inl ⟨i, e, q⟩)
/-- σ at the entry -/
theorem start_def {N : List Str} {vs : List V} : L2.start N vs = vs.map some ++ List.replicate (N.length - vs.length) none := rfl
end Nv
local macro_rules | `(tactic| walk_at "rd") => `(tactic| try simp only [Nv.e_seq, Nv.e_next, Nv.e_asg, Nv.e_gname, Nv.e_gtup, Nv.e_gcons, Nv.e_gnil, Nv.e_gsub, Nv.e_ret, Nv.e_retN, Nv.e_if, Nv.e_drop, Nv.e_par, Nv.e_par3, Nv.e_rP2, Nv.e_rP3, Nv.e_tyes, Nv.e_disp, Nv.e_xf, L2.tPairs, L2.upd_upd, L2.upd_same, Nv.e_wipe0, Nv.e_wipe1, Nv.e_sfld, Nv.e_var, Nv.e_c, Nv.e_op, Nv.e_un, Nv.e_ri, Nv.e_ri0, Nv.e_ru, Nv.e_eq, Nv.e_ne, Nv.e_test, Nv.e_B, Nv.e_and, Nv.e_or, Nv.e_not, Nv.e_andV, Nv.e_orV, Nv.e_notV, Nv.e_ifE, Nv.e_cb, Nv.e_nil, Nv.e_cons, Nv.e_tup, Nv.e_lst1, Nv.e_fld, Nv.e_slice, Nv.e_nopart, Nv.e_part, Nv.e_bm0, Nv.e_bm, Nv.e_m1, Nv.e_cg, Nv.e_mg, Nv.e_make, Nv.e_prop, Nv.e_raise1, Nv.e_chain, Nv.e_mulS, Nv.e_slS, Nv.e_cxK, Nv.start_def, List.getElem?_cons_zero, List.getElem?_cons_succ, List.set_cons_zero, List.set_cons_succ, List.map_cons, List.map_nil, List.cons_append, List.nil_append, List.append_nil, List.length_cons, List.length_nil, List.replicate, Option.some.injEq, exists_eq_left', exists_eq_left, L2.V.bl.injEq, L2.V.int.injEq, L2.V.str.injEq, L2.V.ref.injEq, List.cons.injEq, and_true, true_and, exists_and_left, exists_and_right, ↓reduceIte, Bool.false_eq_true, Bool.true_eq_false, decide_eq_true_eq, Bool.not_eq_true', Bool.not_true, Bool.not_false, forall_eq'])

namespace Nv
open PySem L2

/-! texts of plain signs -/
def Asc (z : Str) : Prop := ∀ c ∈ z.cps.toList, c < 128
theorem Asc.app {x y : Str} (a : Asc x) (b : Asc y) : Asc (x ++ y) := fun c h => by
  have e : (x ++ y).cps.toList = x.cps.toList ++ y.cps.toList := by
    show (x.cps ++ y.cps).toList = _
    simp
  rw [e] at h
  rcases List.mem_append.mp h with h | h
  · exact a c h
  · exact b c h
theorem cutS_sub {z : Str} {lo hi : Option Int} {c : Nat} (h : c ∈ (cutS z lo hi).cps.toList) : c ∈ z.cps.toList := by
  unfold cutS at h
  exact List.mem_of_mem_drop (List.mem_of_mem_take (by simpa using h))
theorem Asc.cut {z : Str} (a : Asc z) (lo hi : Option Int) : Asc (cutS z lo hi) := fun c h => a c (cutS_sub h)
theorem Asc.one {c : Nat} (h : c < 128) : Asc ⟨#[c]⟩ := fun d hd => by
  have : d = c := by simpa using hd
  omega
theorem Asc.empty : Asc Str.empty := fun c h => by
  simp [Str.empty] at h
theorem foldl_mem {x : Array Nat} {c : Nat} : ∀ (n : Nat) (acc : Array Nat), c ∈ ((List.replicate n x).foldl (· ++ ·) acc).toList → c ∈ acc.toList ∨ c ∈ x.toList
  | 0, acc, h => .inl h
  | n + 1, acc, h => by
    rw [List.replicate_succ, List.foldl_cons] at h
    rcases foldl_mem n _ h with h | h
    · have e : (acc ++ x).toList = acc.toList ++ x.toList := by simp
      rw [e] at h
      exact List.mem_append.mp h
    · exact .inr h
theorem Asc.mul {z : Str} (a : Asc z) (n : Int) : Asc (Txt.mul z n) := fun c h => by
  unfold Txt.mul at h
  split at h
  · exact Asc.empty c h
  · split at h
    · exact a c h
    · rcases foldl_mem _ _ h with h | h
      · simp at h
      · exact a c h
theorem foldl_size (x : Array Nat) : ∀ (n : Nat) (acc : Array Nat), ((List.replicate n x).foldl (· ++ ·) acc).size = acc.size + n * x.size
  | 0, acc => by simp
  | n + 1, acc => by
    rw [List.replicate_succ, List.foldl_cons, foldl_size x n, Array.size_append, Nat.succ_mul]
    omega
theorem mul_len (z : Str) (n : Int) : (Txt.mul z n).length ≤ z.length * n.toNat := by
  unfold Txt.mul
  split
  · exact Nat.zero_le _
  · split
    · rename_i h1 h2
      simp only [Bool.or_eq_true, beq_iff_eq] at h2
      rcases h2 with h2 | h2
      · subst h2
        simp
      · rw [h2]
        exact Nat.zero_le _
    · show ((List.replicate n.toNat z.cps).foldl (· ++ ·) #[]).size ≤ _
      rw [foldl_size]
      simp [Str.length, Nat.mul_comm]
theorem mulOk_of {z : Str} {n : Int} (h1 : n ≤ 1000) (h0 : -1000 ≤ n) (h2 : z.length ≤ 10000) : MulOk z n := by
  refine ⟨?_, ?_, ?_⟩
  · simp
    constructor <;> omega
  · intro hn _ h
    have hp : 0 < n := by omega
    have : (9223372036854774 : Int) ≤ (2 ^ 63 - 1) / n := by
      refine Int.le_ediv_of_mul_le hp ?_
      have : (2 : Int) ^ 63 - 1 = 9223372036854775807 := by decide
      rw [this]
      omega
    omega
  · intro hn _
    have hm : z.length * n.toNat ≤ 10000 * 1000 := Nat.mul_le_mul h2 (by omega)
    unfold Builtin.Str.tooLong
    have : sizeLine = 16777216 := sizeLine_eq
    simp [this]
    omega
theorem append_len (x y : Str) : (x ++ y).length = x.length + y.length := Str.length_append x y
theorem join_signs (l : List Nat) : Txt.join Str.empty (l.map fun c => (⟨#[c]⟩ : Str)) = ⟨l.toArray⟩ := by
  show Builtin.Str.glued Str.empty _ = _
  rw [StrLaws.glued_eq_join]
  exact PyProof.Rows.join_ones l
theorem Asc.signs {l : List Nat} (h : ∀ c ∈ l, c < 128) : Asc ⟨l.toArray⟩ := fun c hc => h c (by simpa using hc)
theorem repr_len {z : Str} (a : Asc z) : (reprText z).length ≤ 10 * z.length + 2 := StrLaws.reprText_len z fun c h => Nat.lt_of_lt_of_le (a c h) (by decide)
end Nv

namespace Nv
open PySem L2

/-! values whose text is short -/
structure Shw (W D : Nat) (d : PyData) : Prop where
  s : d.leavesShort 40 = true
  w : d.weight ≤ W
  p : d.depth ≤ D
  h : d.showable = true
structure Shws (W D : Nat) (ds : List PyData) : Prop where
  s : PyData.leavesShortAll 40 ds = true
  w : PyData.weightAll ds ≤ W
  p : PyData.depthAll ds ≤ D
  h : PyData.showableAll ds = true
theorem Shw.len {W D : Nat} {d : PyData} (h : Shw W D d) (hw : W ≤ 390000) : d.shown.length ≤ sizeLine := by
  have h1 := PyData.shown_le 40 (by decide) d h.s
  have h2 : (40 + 2) * d.weight ≤ (40 + 2) * 390000 := Nat.mul_le_mul_left _ (Nat.le_trans h.w hw)
  have e : sizeLine = 16777216 := sizeLine_eq
  omega
theorem Shw.le {W D W' D' : Nat} {d : PyData} (h : Shw W D d) (a : W ≤ W') (b : D ≤ D') : Shw W' D' d := ⟨h.s, Nat.le_trans h.w a, Nat.le_trans h.p b, h.h⟩
theorem Shw.non {W D : Nat} : Shw W D .none := ⟨rfl, Nat.zero_le _, Nat.zero_le _, rfl⟩
theorem Shw.bl {W D : Nat} (b : Bool) : Shw W D (.bool b) := ⟨rfl, Nat.zero_le _, Nat.zero_le _, rfl⟩
theorem log21 {i : Int} (h : -(10 ^ 21) ≤ i ∧ i ≤ 10 ^ 21) : i.natAbs.log2 < 70 := by
  by_cases h0 : i.natAbs = 0
  · rw [h0]
    decide
  · rw [Nat.log2_lt h0]
    omega
theorem Shw.int {D : Nat} {i : Int} (h : -(10 ^ 21) ≤ i ∧ i ≤ 10 ^ 21) : Shw 71 D (.int i) := by
  have hl := log21 h
  refine ⟨?_, ?_, Nat.zero_le _, ?_⟩
  · have h1 := int_text_length_le10 (a := i) (k := 22) (by decide) (by omega)
    have e : (Str.ofString (toString i)).length = (toString i).length := ofString_length _
    have h2 : (PyData.shown (.int i)).length ≤ 40 := by
      simp only [PyData.shown]
      exact Nat.le_trans (Nat.le_of_eq e) (by omega)
    simpa only [PyData.leavesShort, decide_eq_true_eq] using h2
  · simp only [PyData.weight]
    split <;> omega
  · simp only [PyData.showable, decide_eq_true_eq]
    omega
theorem Shw.str {D : Nat} {z : Str} (a : Asc z) : Shw z.length D (.str z) := by
  refine ⟨?_, Nat.le_refl _, Nat.zero_le _, rfl⟩
  simp only [PyData.leavesShort, List.all_eq_true, decide_eq_true_eq]
  exact fun c hc => Nat.lt_of_lt_of_le (a c hc) (by decide)
theorem Shw.list {W D : Nat} {ds : List PyData} (h : Shws W D ds) : Shw W (D + 1) (.list ds) := by
  refine ⟨?_, ?_, ?_, ?_⟩
  · simpa only [PyData.leavesShort] using h.s
  · simpa only [PyData.weight] using h.w
  · have := h.p
    simp only [PyData.depth]
    omega
  · simpa only [PyData.showable] using h.h
theorem Shw.tuple {W D : Nat} {ds : List PyData} (h : Shws W D ds) : Shw W (D + 1) (.tuple ds) := by
  refine ⟨?_, ?_, ?_, ?_⟩
  · simpa only [PyData.leavesShort] using h.s
  · simpa only [PyData.weight] using h.w
  · have := h.p
    simp only [PyData.depth]
    omega
  · simpa only [PyData.showable] using h.h
theorem Shw.dict1 {W1 W2 D : Nat} {k v : PyData} (a : Shw W1 D k) (b : Shw W2 D v) : Shw (W1 + W2 + 2) (D + 1) (.dict [(k, v)]) := by
  refine ⟨?_, ?_, ?_, ?_⟩
  · simp only [PyData.leavesShort, PyData.leavesShortKv, a.s, b.s, Bool.and_self]
  · have := a.w
    have := b.w
    simp only [PyData.weight, PyData.weightKv]
    omega
  · have := a.p
    have := b.p
    simp only [PyData.depth, PyData.depthKv]
    omega
  · simp only [PyData.showable, PyData.showableKv, a.h, b.h, Bool.and_self]
theorem Shws.nil {W D : Nat} : Shws W D [] := ⟨rfl, Nat.zero_le _, Nat.zero_le _, rfl⟩
theorem Shws.cons {W1 W2 D : Nat} {d : PyData} {ds : List PyData} (a : Shw W1 D d) (b : Shws W2 D ds) : Shws (W1 + 1 + W2) D (d :: ds) := by
  refine ⟨?_, ?_, ?_, ?_⟩
  · simp only [PyData.leavesShortAll, a.s, b.s, Bool.and_self]
  · have := a.w
    have := b.w
    simp only [PyData.weightAll]
    omega
  · have := a.p
    have := b.p
    simp only [PyData.depthAll]
    omega
  · simp only [PyData.showableAll, a.h, b.h, Bool.and_self]
theorem Shws.le {W D W' D' : Nat} {d : List PyData} (h : Shws W D d) (a : W ≤ W') (b : D ≤ D') : Shws W' D' d := ⟨h.s, Nat.le_trans h.w a, Nat.le_trans h.p b, h.h⟩
theorem Shws.app {W1 W2 D : Nat} : ∀ {ds es : List PyData}, Shws W1 D ds → Shws W2 D es → Shws (W1 + W2) D (ds ++ es)
  | [], es, a, b => b.le (by omega) (Nat.le_refl _)
  | d :: ds, es, a, b => by
    have h1 := a.s
    have h2 := a.w
    have h3 := a.p
    have h4 := a.h
    simp only [PyData.leavesShortAll, Bool.and_eq_true] at h1
    simp only [PyData.weightAll] at h2
    simp only [PyData.depthAll] at h3
    simp only [PyData.showableAll, Bool.and_eq_true] at h4
    have q : Shws (PyData.weightAll ds) D ds := ⟨h1.2, Nat.le_refl _, by omega, h4.2⟩
    have p : Shw (PyData.weight d) D d := ⟨h1.1, Nat.le_refl _, by omega, h4.1⟩
    have r := Shws.cons p (Shws.app q b)
    exact r.le (by omega) (Nat.le_refl _)
/-- repr of a list, a tuple, a dict whose text is short -/
theorem r_repr {H : Hp} {Q : VK} {a : Addr} {d : PyData} {W D : Nat} (h : DV H (.ref a) d) (s : Shw W D d) (hw : W ≤ 390000) (hd : D ≤ 60) (q : Q (.str d.shown) H) : rRepr [.ref a] H Q :=
  ⟨a, d, rfl, h, s.h, Nat.le_trans s.p hd, s.len hw, q⟩
end Nv

namespace PySem.W
/-- isinstance by an own class -/
theorem kit_ref {K : Frag} {C : Addr} {cls : Value} (hd : hasDictIn K C = true) (ht : typeIn K (.ref C) = some (.type "type")) (h : subIn K cls (.ref C) = some true) : kitOne K cls (.ref C) = some true := by
  have hc : (clsIn K C).isSome = true := by
    obtain ⟨cd, h, _⟩ := any_some hd
    rw [h]
    rfl
  unfold kitOne
  split
  · rfl
  · unfold kitCls
    simp [hc, ht, h]
end PySem.W

namespace K04
open PySem L2 Nv
def top (i : Nat) : Stmt := PySem.Challenge.pw_neverunsaid_k04_whole_disks_and_falls.main.body.getD i (.Pass ⟨0, 0, 0, 0⟩)
abbrev s_is_int : Stmt := top 1
abbrev s_is_count : Stmt := top 2
abbrev s_is_signs : Stmt := top 3
abbrev s_Disk_text : Stmt := inClass (top 9) 1
abbrev s_Disk_synced : Stmt := inClass (top 9) 2
abbrev s_InvalidSigns_init : Stmt := inClass (top 6) 0
abbrev s_InvalidCount_init : Stmt := inClass (top 7) 0
abbrev s_Disk_init : Stmt := inClass (top 9) 0
abbrev s_Disk_put : Stmt := inClass (top 9) 3
abbrev s_Disk_sync : Stmt := inClass (top 9) 4
abbrev s_Disk_trim : Stmt := inClass (top 9) 5
abbrev s_Disk_fall : Stmt := inClass (top 9) 6
abbrev s_Disk_lose : Stmt := inClass (top 9) 7
abbrev s_Disk__leave : Stmt := inClass (top 9) 8
abbrev s_l_cell : Stmt := top 11
abbrev s_l_box : Stmt := top 12
abbrev s_l_take : Stmt := top 13
abbrev s_l_signs : Stmt := top 14
abbrev s_l_odd_signs : Stmt := top 15
abbrev s_l_odd_count : Stmt := top 16
abbrev s_l_deed : Stmt := top 17
abbrev s_l_is_count : Stmt := top 18
abbrev s_l_is_signs : Stmt := top 19
abbrev s_l_left : Stmt := top 20
abbrev s_l_due : Stmt := top 21
abbrev s_l_did : Stmt := top 22
abbrev s_l_is : Stmt := top 23
abbrev s_l_done : Stmt := top 24
abbrev s_l_right : Stmt := top 25
abbrev s_law : Stmt := top 26
theorem sc_is_int : FnScope ["value"] ["value"] (defScope s_is_int) := ⟨rfl, rfl, rfl, by decide +kernel, rfl, by decide +kernel, by decide +kernel⟩
theorem sc_is_count : FnScope ["value"] ["value"] (defScope s_is_count) := ⟨rfl, rfl, rfl, by decide +kernel, rfl, by decide +kernel, by decide +kernel⟩
theorem sc_is_signs : FnScope ["value"] ["value"] (defScope s_is_signs) := ⟨rfl, rfl, rfl, by decide +kernel, rfl, by decide +kernel, by decide +kernel⟩
theorem sc_Disk_init : FnScope ["self"] ["self"] (defScope s_Disk_init) := ⟨rfl, rfl, rfl, by decide +kernel, rfl, by decide +kernel, by decide +kernel⟩
theorem sc_Disk_text : FnScope ["self"] ["self"] (defScope s_Disk_text) := ⟨rfl, rfl, rfl, by decide +kernel, rfl, by decide +kernel, by decide +kernel⟩
theorem sc_Disk_synced : FnScope ["self"] ["self"] (defScope s_Disk_synced) := ⟨rfl, rfl, rfl, by decide +kernel, rfl, by decide +kernel, by decide +kernel⟩
theorem sc_InvalidSigns_init : FnScope ["self", "given"] ["self", "given"] (defScope s_InvalidSigns_init) := ⟨rfl, rfl, rfl, by decide +kernel, rfl, by decide +kernel, by decide +kernel⟩
theorem sc_InvalidCount_init : FnScope ["self", "given"] ["self", "given"] (defScope s_InvalidCount_init) := ⟨rfl, rfl, rfl, by decide +kernel, rfl, by decide +kernel, by decide +kernel⟩
theorem sc_Disk_put : FnScope ["self", "signs"] ["self", "signs"] (defScope s_Disk_put) := ⟨rfl, rfl, rfl, by decide +kernel, rfl, by decide +kernel, by decide +kernel⟩
theorem sc_Disk_sync : FnScope ["self"] ["self"] (defScope s_Disk_sync) := ⟨rfl, rfl, rfl, by decide +kernel, rfl, by decide +kernel, by decide +kernel⟩
theorem sc_Disk_trim : FnScope ["self", "many"] ["self", "many"] (defScope s_Disk_trim) := ⟨rfl, rfl, rfl, by decide +kernel, rfl, by decide +kernel, by decide +kernel⟩
theorem sc_Disk_fall : FnScope ["self", "keep", "loose"] ["self", "keep"] (defScope s_Disk_fall) := ⟨rfl, rfl, rfl, by decide +kernel, rfl, by decide +kernel, by decide +kernel⟩
theorem sc_Disk_lose : FnScope ["self", "many"] ["self", "many"] (defScope s_Disk_lose) := ⟨rfl, rfl, rfl, by decide +kernel, rfl, by decide +kernel, by decide +kernel⟩
theorem sc_Disk__leave : FnScope ["self", "many"] ["self", "many"] (defScope s_Disk__leave) := ⟨rfl, rfl, rfl, by decide +kernel, rfl, by decide +kernel, by decide +kernel⟩
theorem sc_l_cell : FnScope ["_law_script", "_law_k"] ["_law_script", "_law_k"] (defScope s_l_cell) := ⟨rfl, rfl, rfl, by decide +kernel, rfl, by decide +kernel, by decide +kernel⟩
theorem sc_l_box : FnScope ["_law_great"] ["_law_great"] (defScope s_l_box) := ⟨rfl, rfl, rfl, by decide +kernel, rfl, by decide +kernel, by decide +kernel⟩
theorem sc_l_take : FnScope ["_law_box_here", "_law_many", "_law_digit", "_law_mixed"] ["_law_box_here", "_law_many"] (defScope s_l_take) := ⟨rfl, rfl, rfl, by decide +kernel, rfl, by decide +kernel, by decide +kernel⟩
theorem sc_l_signs : FnScope ["_law_box_here", "_law_alphabet", "_law_kind", "_law_at", "_law_many", "_law_turn"] ["_law_box_here"] (defScope s_l_signs) := ⟨rfl, rfl, rfl, by decide +kernel, rfl, by decide +kernel, by decide +kernel⟩
theorem sc_l_odd_signs : FnScope ["_law_kind", "_law_signs_here"] ["_law_kind", "_law_signs_here"] (defScope s_l_odd_signs) := ⟨rfl, rfl, rfl, by decide +kernel, rfl, by decide +kernel, by decide +kernel⟩
theorem sc_l_odd_count : FnScope ["_law_kind"] ["_law_kind"] (defScope s_l_odd_count) := ⟨rfl, rfl, rfl, by decide +kernel, rfl, by decide +kernel, by decide +kernel⟩
theorem sc_l_deed : FnScope ["_law_box_here", "_law_text", "_law_synced", "_law_kind", "_law_near", "_law_odd", "_law_counts", "_law_count"] ["_law_box_here", "_law_text", "_law_synced"] (defScope s_l_deed) := ⟨rfl, rfl, rfl, by decide +kernel, rfl, by decide +kernel, by decide +kernel⟩
theorem sc_l_is_count : FnScope ["_law_value"] ["_law_value"] (defScope s_l_is_count) := ⟨rfl, rfl, rfl, by decide +kernel, rfl, by decide +kernel, by decide +kernel⟩
theorem sc_l_is_signs : FnScope ["_law_value", "_law_sign"] ["_law_value"] (defScope s_l_is_signs) := ⟨rfl, rfl, rfl, by decide +kernel, rfl, by decide +kernel, by decide +kernel⟩
theorem sc_l_left : FnScope ["_law_state", "_law_many"] ["_law_state", "_law_many"] (defScope s_l_left) := ⟨rfl, rfl, rfl, by decide +kernel, rfl, by decide +kernel, by decide +kernel⟩
theorem sc_l_due : FnScope ["_law_state", "_law_deed_here", "_law_name", "_law_value", "_law_text", "_law_synced"] ["_law_state", "_law_deed_here"] (defScope s_l_due) := ⟨rfl, rfl, rfl, by decide +kernel, rfl, by decide +kernel, by decide +kernel⟩
theorem sc_l_did : FnScope ["_law_disk", "_law_deed_here", "_law_turn", "_law_name", "_law_value", "e"] ["_law_disk", "_law_deed_here", "_law_turn"] (defScope s_l_did) := ⟨rfl, rfl, rfl, by decide +kernel, rfl, by decide +kernel, by decide +kernel⟩
theorem sc_l_is : FnScope ["_law_disks", "_law_states", "_law_k", "_law_told"] ["_law_disks", "_law_states"] (defScope s_l_is) := ⟨rfl, rfl, rfl, by decide +kernel, rfl, by decide +kernel, by decide +kernel⟩
theorem sc_l_done : FnScope ["_law_disks", "_law_states", "_law_which", "_law_deed_here", "_law_turn", "_law_told", "_law_due_here"] ["_law_disks", "_law_states", "_law_which", "_law_deed_here", "_law_turn"] (defScope s_l_done) := ⟨rfl, rfl, rfl, by decide +kernel, rfl, by decide +kernel, by decide +kernel⟩
theorem sc_l_right : FnScope ["_law_box_here", "_law_disks", "_law_states", "_law_k", "_law_which", "_law_turn", "_law_deed_here", "_law_many"] ["_law_box_here"] (defScope s_l_right) := ⟨rfl, rfl, rfl, by decide +kernel, rfl, by decide +kernel, by decide +kernel⟩
theorem sc_law : FnScope ["_law_script", "_law_k"] ["_law_script"] (defScope s_law) := ⟨rfl, rfl, rfl, by decide +kernel, rfl, by decide +kernel, by decide +kernel⟩
/-- a def of the module -/
structure Tx (K : PySem.W.Frag) (mg : Str → Option Value) : Type where
  C_Disk : Addr
  C_InvalidSigns : Addr
  C_InvalidCount : Addr
  C_UnsaidError : Addr
  x_InvalidSigns : InitT K C_InvalidSigns "InvalidSigns.__init__" s_InvalidSigns_init ["self", "given"]
  x_InvalidCount : InitT K C_InvalidCount "InvalidCount.__init__" s_InvalidCount_init ["self", "given"]
  e_InvalidSigns : ErrT K mg "InvalidSigns" "given" C_InvalidSigns x_InvalidSigns.f
  e_InvalidCount : ErrT K mg "InvalidCount" "given" C_InvalidCount x_InvalidCount.f
  m_InvalidSigns : mg "InvalidSigns" = some (.ref C_InvalidSigns)
  m_InvalidCount : mg "InvalidCount" = some (.ref C_InvalidCount)
  m_UnsaidError : mg "UnsaidError" = some (.ref C_UnsaidError)
  x_ss : PySem.W.exmOne K (.ref C_InvalidSigns) (.ref C_InvalidSigns) = some true
  x_cs : PySem.W.exmOne K (.ref C_InvalidCount) (.ref C_InvalidSigns) = some false
  x_cc : PySem.W.exmOne K (.ref C_InvalidCount) (.ref C_InvalidCount) = some true
  i_s : PySem.W.kitOne K (.ref C_InvalidSigns) (.ref C_UnsaidError) = some true
  i_c : PySem.W.kitOne K (.ref C_InvalidCount) (.ref C_UnsaidError) = some true
  cl_Disk : Cls K C_Disk
  m_Disk : mg "Disk" = some (.ref C_Disk)
  na_text : NoAttr K C_Disk "_text"
  na_synced : NoAttr K C_Disk "_synced"
  p_text : PropT K C_Disk "text" "Disk.text" s_Disk_text
  p_synced : PropT K C_Disk "synced" "Disk.synced" s_Disk_synced
  n_abs : mg "abs" = none
  n_bool : mg "bool" = none
  n_int : mg "int" = none
  n_isinstance : mg "isinstance" = none
  n_len : mg "len" = none
  n_list : mg "list" = none
  n_max : mg "max" = none
  n_min : mg "min" = none
  n_range : mg "range" = none
  n_repr : mg "repr" = none
  n_str : mg "str" = none
  n_sum : mg "sum" = none
  d_is_int : DefT K mg "is_int" s_is_int ["value"]
  d_is_count : DefT K mg "is_count" s_is_count ["value"]
  d_is_signs : DefT K mg "is_signs" s_is_signs ["value"]
  d_Disk_init : InitT K C_Disk "Disk.__init__" s_Disk_init ["self"]
  k_Disk : Mk K C_Disk d_Disk_init.f
  d_Disk_put : MethT K C_Disk "put" "Disk.put" s_Disk_put ["self", "signs"]
  d_Disk_sync : MethT K C_Disk "sync" "Disk.sync" s_Disk_sync ["self"]
  d_Disk_trim : MethT K C_Disk "trim" "Disk.trim" s_Disk_trim ["self", "many"]
  d_Disk_fall : MethT K C_Disk "fall" "Disk.fall" s_Disk_fall ["self", "keep"]
  d_Disk_lose : MethT K C_Disk "lose" "Disk.lose" s_Disk_lose ["self", "many"]
  d_Disk__leave : MethT K C_Disk "_leave" "Disk._leave" s_Disk__leave ["self", "many"]
  d_l_cell : DefT K mg "_law_cell" s_l_cell ["_law_script", "_law_k"]
  d_l_box : DefT K mg "_law_box" s_l_box ["_law_great"]
  d_l_take : DefT K mg "_law_take" s_l_take ["_law_box_here", "_law_many"]
  d_l_signs : DefT K mg "_law_signs" s_l_signs ["_law_box_here"]
  d_l_odd_signs : DefT K mg "_law_odd_signs" s_l_odd_signs ["_law_kind", "_law_signs_here"]
  d_l_odd_count : DefT K mg "_law_odd_count" s_l_odd_count ["_law_kind"]
  d_l_deed : DefT K mg "_law_deed" s_l_deed ["_law_box_here", "_law_text", "_law_synced"]
  d_l_is_count : DefT K mg "_law_is_count" s_l_is_count ["_law_value"]
  d_l_is_signs : DefT K mg "_law_is_signs" s_l_is_signs ["_law_value"]
  d_l_left : DefT K mg "_law_left" s_l_left ["_law_state", "_law_many"]
  d_l_due : DefT K mg "_law_due" s_l_due ["_law_state", "_law_deed_here"]
  d_l_did : DefT K mg "_law_did" s_l_did ["_law_disk", "_law_deed_here", "_law_turn"]
  d_l_is : DefT K mg "_law_is" s_l_is ["_law_disks", "_law_states"]
  d_l_done : DefT K mg "_law_done" s_l_done ["_law_disks", "_law_states", "_law_which", "_law_deed_here", "_law_turn"]
  d_l_right : DefT K mg "_law_right" s_l_right ["_law_box_here"]
  d_law : DefT K mg "law" s_law ["_law_script"]
end K04


namespace K04
open PySem L2 Nv

/-! what the program's own judges tell -/
def good (z : Str) : Bool := Txt.isascii z && Txt.isprintable z
def sigOk : PyData → Bool
  | .str z => good z
  | _ => false
def cntOk : PyData → Bool
  | .int i => decide (0 ≤ i)
  | _ => false
def spJ (g : PyData → Bool) : Sp := fun vs H Q _ => ∃ v d, vs = [v] ∧ DV H v d ∧ ∀ H', Same H H' → Q (.bl (g d)) H'
theorem spJ_len {g : PyData → Bool} : ∀ vs H Q E, spJ g vs H Q E → vs.length = 1 := fun vs H Q E h => by
  obtain ⟨v, d, rfl, _⟩ := h
  rfl

/-! a disk -/
theorem nts : ¬ (("_text" : Str) = "_synced") := by decide +kernel
def flds (z : Str) (n : Int) : List (Str × V) := [("_text", .str z), ("_synced", .int n)]
theorem lk_text (z : Str) (n : Int) : (flds z n).lookup ("_text" : Str) = some (.str z) := by
  have : (("_text" : Str) == ("_text" : Str)) = true := by simp
  simp [flds, List.lookup, this]
theorem lk_synced (z : Str) (n : Int) : (flds z n).lookup ("_synced" : Str) = some (.int n) := by
  have h1 : (("_synced" : Str) == ("_text" : Str)) = false := by decide +kernel
  simp [flds, List.lookup, h1]
theorem lk_no (z : Str) (n : Int) {m : Str} (h1 : (m == ("_text" : Str)) = false) (h2 : (m == ("_synced" : Str)) = false) : (flds z n).lookup m = none := by
  simp [flds, List.lookup, h1, h2]
theorem put_text (z y : Str) (n : Int) : putF "_text" (.str y) (flds z n) = flds y n := by
  simp [flds, putF]
theorem put_synced (z : Str) (n k : Int) : putF "_synced" (.int k) (flds z n) = flds z k := by
  have h1 : ¬ (("_text" : Str) = ("_synced" : Str)) := nts
  simp [flds, putF, h1]
def DiskAt (C : Addr) (H : Hp) (p : Addr) (z : Str) (n : Int) : Prop := ∃ dx, H p = some (.ins C dx (flds z n))
theorem DiskAt.mono {C : Addr} {H H' : Hp} {p : Addr} {z : Str} {n : Int} (e : Same H H') (h : DiskAt C H p z n) : DiskAt C H' p z n := by
  obtain ⟨dx, h⟩ := h
  exact ⟨dx, e _ _ h⟩
/-- what is left of a text: its first many signs -/
def firsts (z : Str) (many : Int) : Str := cutS z none (some many)

section
variable {K : PySem.W.Frag} {mg : Str → Option Value} {H : Hp} {Q : VK} {R : Hp → Prop} {p : Addr} {z y : Str} {n k : Int}
theorem r_text (T : Tx K mg) (h : DiskAt T.C_Disk H p z n) (q : Q (.str z) H) : rFld K "_text" (.ref p) H Q := by
  obtain ⟨dx, h⟩ := h
  exact r_fld h T.cl_Disk T.na_text (lk_text z n) q
theorem r_synced (T : Tx K mg) (h : DiskAt T.C_Disk H p z n) (q : Q (.int n) H) : rFld K "_synced" (.ref p) H Q := by
  obtain ⟨dx, h⟩ := h
  exact r_fld h T.cl_Disk T.na_synced (lk_synced z n) q
theorem s_text (T : Tx K mg) (h : DiskAt T.C_Disk H p z n) (q : ∀ H', DiskAt T.C_Disk H' p y n → Ext1 p H H' → R H') : rStF K "_text" (.ref p) (.str y) H R := by
  obtain ⟨dx, h⟩ := h
  refine r_stF h T.cl_Disk T.na_text (by show 2 < 1000; decide) ?_
  rw [put_text]
  exact q _ ⟨dx, upd_same⟩ Ext1.upd
theorem s_synced (T : Tx K mg) (h : DiskAt T.C_Disk H p z n) (q : ∀ H', DiskAt T.C_Disk H' p z k → Ext1 p H H' → R H') : rStF K "_synced" (.ref p) (.int k) H R := by
  obtain ⟨dx, h⟩ := h
  refine r_stF h T.cl_Disk T.na_synced (by show 2 < 1000; decide) ?_
  rw [put_synced]
  exact q _ ⟨dx, upd_same⟩ Ext1.upd
theorem m_disk {C : Addr} {m : Str} (h : DiskAt C H p z n) (h1 : (m == ("_text" : Str)) = false) (h2 : (m == ("_synced" : Str)) = false) (q : R H) : rMeth C m (.ref p) H R := by
  obtain ⟨dx, h⟩ := h
  exact r_meth h (lk_no z n h1 h2) q
end
def spInit (C : Addr) : Sp := fun vs H Q _ => ∃ p dx, vs = [.ref p] ∧ H p = some (.ins C dx []) ∧ ∀ H', DiskAt C H' p Str.empty 0 → Ext1 p H H' → Q .non H'
def spGet (C : Addr) (g : Str → Int → V) : Sp := fun vs H Q _ => ∃ p z n, vs = [.ref p] ∧ DiskAt C H p z n ∧ Q (g z n) H
def spPut (C CS : Addr) : Sp := fun vs H Q E => ∃ p v z n d, vs = [.ref p, v] ∧ DiskAt C H p z n ∧ DV H v d ∧
  (∀ y, d = .str y → good y = true → z.length + y.length ≤ sizeLine ∧ ∀ H', DiskAt C H' p (z ++ y) n → Ext1 p H H' → Q .non H') ∧
  (sigOk d = false → ∀ dd H', H dd = none → Same H H' → H' dd = some (.xd [("given", v)]) → E (.ref CS) (some dd) H')
def spLeave (C : Addr) : Sp := fun vs H Q E => ∃ p i z n, vs = [.ref p, .int i] ∧ DiskAt C H p z n ∧ z.length ≤ sizeLine ∧
  ∀ H', DiskAt C H' p (firsts z i) ((firsts z i).length : Int) → Ext1 p H H' → Q .non H'
def spSync (C : Addr) : Sp := fun vs H Q E => ∃ p z n, vs = [.ref p] ∧ DiskAt C H p z n ∧ z.length ≤ sizeLine ∧
  ∀ H', DiskAt C H' p z (z.length : Int) → Ext1 p H H' → Q .non H'
/-- a method that leaves f i signs behind, if the count i is one and fits -/
def spCut (C CC : Addr) (fits : Str → Int → Bool) (f : Str → Int → Int → Int) : Sp := fun vs H Q E => ∃ p v z n d, vs = [.ref p, v] ∧ DiskAt C H p z n ∧ DV H v d ∧ z.length ≤ sizeLine ∧
  0 ≤ n ∧ n ≤ (z.length : Int) ∧
  (∀ i, d = .int i → 0 ≤ i → fits z i = true → ∀ H', DiskAt C H' p (firsts z (f z n i)) ((firsts z (f z n i)).length : Int) → Ext1 p H H' → Q .non H') ∧
  ((∀ i, d = .int i → 0 ≤ i → fits z i = false) → ∀ dd H', H dd = none → Same H H' → H' dd = some (.xd [("given", v)]) → E (.ref CC) (some dd) H')
section
variable {P : Program} {w : World} {K : PySem.W.Frag} {mg : Str → Option Value} {base : Heap}
theorem ok_is_int (T : Tx K mg) : FnG P w K mg base 1 T.d_is_int.f T.d_is_int.fd ["value"] (spJ isI) := by
  refine okG0 T.d_is_int.F sc_is_int spJ_len (fun cdv A outer s H vs Q E hg hr h => ?_)
  obtain ⟨v, d, rfl, hd, k⟩ := h
  refine ⟨_, (pss_one (ps_ret (pe_and (pe_callB call_isi (by rfl) T.n_isinstance (by decide +kernel) (pa_cons (pv 0) (pa_cons (pe_bltn (v := .ty "int") (by rfl) T.n_int (by decide +kernel) rfl) pa_nil))) (pe_one (pe_not (pe_callB call_isi (by rfl) T.n_isinstance (by decide +kernel) (pa_cons (pv 0) (pa_cons (pe_bltn (v := .ty "bool") (by rfl) T.n_bool (by decide +kernel) rfl) pa_nil)))))))), ?_⟩
  walk_at "rd"
  refine r_isi hd (kit_int d) ?_
  walk_at "rd"
  have fin := k H (Same.refl H)
  cases e : (isI d || isB d) with
  | false =>
    have : isI d = false := by cases d <;> simp_all [isI, isB]
    rw [this] at fin
    simpa using fin
  | true =>
    rw [if_pos rfl]
    refine r_isi hd (kit_bool d) ?_
    walk_at "rd"
    have : (!isB d) = isI d := by cases d <;> simp_all [isI, isB]
    rw [this]
    exact fin
theorem ok_is_count (T : Tx K mg) : FnG P w K mg base 2 T.d_is_count.f T.d_is_count.fd ["value"] (spJ cntOk) := by
  refine okG0 T.d_is_count.F sc_is_count spJ_len (fun cdv A outer s H vs Q E hg hr h => ?_)
  obtain ⟨v, d, rfl, hd, k⟩ := h
  refine ⟨_, (pss_one (ps_ret (pe_and (pe_cG (ok_is_int T) T.d_is_int.b takes0 hg (hr.mono (by decide)) T.d_is_int.m T.d_is_int.F.kp (pa_cons (pv 0) pa_nil)) (pe_one (pe_cmpR op_ge (pv 0) pe_int (nomark _)))))), ?_⟩
  walk_at "rd"
  refine ⟨v, d, rfl, hd, fun H1 e1 => ?_⟩
  have fin := k H1 e1
  cases hd with
  | int i =>
    simp only [isI]
    walk_at "rd"
    exact fin
  | _ =>
    simp only [isI]
    walk_at "rd"
    exact fin
theorem ok_is_signs (T : Tx K mg) : FnG P w K mg base 1 T.d_is_signs.f T.d_is_signs.fd ["value"] (spJ sigOk) := by
  refine okG0 T.d_is_signs.F sc_is_signs spJ_len (fun cdv A outer s H vs Q E hg hr h => ?_)
  obtain ⟨v, d, rfl, hd, k⟩ := h
  refine ⟨_, (pss_one (ps_ret (pe_and (pe_callB call_isi (by rfl) T.n_isinstance (by decide +kernel) (pa_cons (pv 0) (pa_cons (pe_bltn (v := .ty "str") (by rfl) T.n_str (by decide +kernel) rfl) pa_nil))) (pe_and (pe_bm0 PySem.F.plainAttrs_str PySem.F.slot_str_isascii PySem.F.type_str_isascii mt_isascii (pv 0)) (pe_one (pe_bm0 PySem.F.plainAttrs_str PySem.F.slot_str_isprintable PySem.F.type_str_isprintable mt_isprintable (pv 0))))))), ?_⟩
  walk_at "rd"
  refine r_isi hd (kit_str d) ?_
  walk_at "rd"
  have fin := k H (Same.refl H)
  cases hd with
  | str z =>
    simp only [isS]
    walk_at "rd"
    refine ⟨rfl, ?_⟩
    simp only [sigOk, good] at fin
    cases ea : Txt.isascii z with
    | false =>
      rw [ea] at fin
      simpa using fin
    | true =>
      rw [ea] at fin
      rw [if_pos rfl]
      exact ⟨rfl, by simpa using fin⟩
  | _ =>
    simp only [isS]
    walk_at "rd"
    exact fin

theorem ok_Disk_init (T : Tx K mg) : FnOk P w K mg base CX0 1 T.d_Disk_init.f T.d_Disk_init.fd ["self"] (spInit T.C_Disk) := by
  refine T.d_Disk_init.F.ok sc_Disk_init (fun vs H Q E h => ?_) (fun cdv A outer s H vs Q E hr h => ?_)
  · obtain ⟨p, dx, rfl, _⟩ := h
    rfl
  obtain ⟨p, dx, rfl, hp, k⟩ := h
  refine ⟨_, (pss_cons (ps_fld (pv 0) pe_str rfl)
    (pss_one (ps_fld (pv 0) pe_int rfl))), ?_⟩
  walk_at "rd"
  refine r_stF hp T.cl_Disk T.na_text (by decide) ?_
  walk_at "rd"
  refine r_stF upd_same T.cl_Disk T.na_synced (by show 1 < 1000; decide) ?_
  rw [upd_upd]
  refine k _ ⟨dx, ?_⟩ Ext1.upd
  rw [upd_same]
  have h1 : ¬ (("_text" : Str) = ("_synced" : Str)) := nts
  simp [putF, flds, h1, Str.empty]
  rfl
theorem okp_text (T : Tx K mg) : FnOk P w K mg base CX0 1 T.p_text.g T.p_text.fd ["self"] (spGet T.C_Disk fun z _ => .str z) := by
  refine T.p_text.F.ok sc_Disk_text (fun vs H Q E h => ?_) (fun cdv A outer s H vs Q E hr h => ?_)
  · obtain ⟨p, z, n, rfl, _⟩ := h
    rfl
  obtain ⟨p, z, n, rfl, hp, k⟩ := h
  refine ⟨_, (pss_one (ps_ret (pe_fld (pv 0) rfl))), ?_⟩
  walk_at "rd"
  exact r_text T hp k
theorem okp_synced (T : Tx K mg) : FnOk P w K mg base CX0 1 T.p_synced.g T.p_synced.fd ["self"] (spGet T.C_Disk fun _ n => .int n) := by
  refine T.p_synced.F.ok sc_Disk_synced (fun vs H Q E h => ?_) (fun cdv A outer s H vs Q E hr h => ?_)
  · obtain ⟨p, z, n, rfl, _⟩ := h
    rfl
  obtain ⟨p, z, n, rfl, hp, k⟩ := h
  refine ⟨_, (pss_one (ps_ret (pe_fld (pv 0) rfl))), ?_⟩
  walk_at "rd"
  exact r_synced T hp k
theorem okx_InvalidSigns (T : Tx K mg) : FnOk P w K mg base CX0 1 T.x_InvalidSigns.f T.x_InvalidSigns.fd ["self", "given"] (spXI K "given") :=
  ok_xi T.x_InvalidSigns.F sc_InvalidSigns_init rfl (by decide) (by decide)
theorem okx_InvalidCount (T : Tx K mg) : FnOk P w K mg base CX0 1 T.x_InvalidCount.f T.x_InvalidCount.fd ["self", "given"] (spXI K "given") :=
  ok_xi T.x_InvalidCount.F sc_InvalidCount_init rfl (by decide) (by decide)
theorem ok_Disk_put (T : Tx K mg) : FnG P w K mg base 3 T.d_Disk_put.f T.d_Disk_put.fd ["self", "signs"] (spPut T.C_Disk T.C_InvalidSigns) := by
  refine okG T.d_Disk_put.F sc_Disk_put (fun vs H Q E h => ?_) (fun cdv A outer s H vs Q E hg hr h => ?_)
  · obtain ⟨p, v, z, n, d, rfl, _⟩ := h
    rfl
  obtain ⟨p, v, z, n, d, rfl, hp, hd, k1, k2⟩ := h
  refine ⟨_, (pss_cons (ps_if (pt_not (pt_val (pe_cG (ok_is_signs T) T.d_is_signs.b (takes_of rfl rfl rfl rfl) hg (hr.mono (by decide)) T.d_is_signs.m T.d_is_signs.F.kp (pa_cons (pv 1) pa_nil))))
      (pss_one (ps_err rfl (takes_of rfl rfl rfl rfl) T.e_InvalidSigns (okx_InvalidSigns T) T.x_InvalidSigns.bi (hr.mono (by decide)) (pv 1)))
      pss_nil)
    (pss_one (ps_fld (pv 0) (pe_op op_add_str (pe_fld (pv 0) rfl) (pv 1)) rfl))), ?_⟩
  walk_at "rd"
  refine ⟨v, d, rfl, hd, fun H1 e1 => ⟨_, rfl, ?_⟩⟩
  cases e : sigOk d with
  | false =>
    walk_at "rd"
    intro dd hdd
    exact k2 e dd _ (e1.free hdd) (Same.trans e1 (Same.new hdd)) upd_same
  | true =>
    walk_at "rd"
    cases hd with
    | str y =>
      obtain ⟨hz, k⟩ := k1 y rfl e
      refine r_text T (hp.mono e1) ?_
      walk_at "rd"
      refine ⟨hz, ?_⟩
      exact s_text T (hp.mono e1) fun H2 h2 e2 => k H2 h2 ((Nv.Same.ext1 e1).trans e2)
    | _ => cases e
theorem ok_Disk_sync (T : Tx K mg) : FnG P w K mg base 1 T.d_Disk_sync.f T.d_Disk_sync.fd ["self"] (spSync T.C_Disk) := by
  refine okG0 T.d_Disk_sync.F sc_Disk_sync (fun vs H Q E h => ?_) (fun cdv A outer s H vs Q E hg hr h => ?_)
  · obtain ⟨p, z, n, rfl, _⟩ := h
    rfl
  obtain ⟨p, z, n, rfl, hp, hz, k⟩ := h
  refine ⟨_, (pss_one (ps_fld (pv 0) (pe_callB call_len_str (by rfl) T.n_len (by decide +kernel) (pa_cons (pe_fld (pv 0) rfl) pa_nil)) rfl)), ?_⟩
  walk_at "rd"
  refine r_text T hp ⟨z, rfl, hz, ?_⟩
  walk_at "rd"
  exact s_synced T hp k
theorem ok_Disk__leave (T : Tx K mg) : FnG P w K mg base 1 T.d_Disk__leave.f T.d_Disk__leave.fd ["self", "many"] (spLeave T.C_Disk) := by
  refine okG0 T.d_Disk__leave.F sc_Disk__leave (fun vs H Q E h => ?_) (fun cdv A outer s H vs Q E hg hr h => ?_)
  · obtain ⟨p, i, z, n, rfl, _⟩ := h
    rfl
  obtain ⟨p, i, z, n, rfl, hp, hz, k⟩ := h
  refine ⟨_, (pss_cons (ps_fld (pv 0) (pe_slice sl_str (pe_fld (pv 0) rfl) po_none (po_some (pv 1))) rfl)
    (pss_one (ps_fld (pv 0) (pe_callB call_len_str (by rfl) T.n_len (by decide +kernel) (pa_cons (pe_fld (pv 0) rfl) pa_nil)) rfl))), ?_⟩
  walk_at "rd"
  refine r_text T hp ?_
  walk_at "rd"
  refine ⟨hz, s_text T hp fun H1 h1 e1 => ?_⟩
  walk_at "rd"
  refine r_text T h1 ⟨_, rfl, Nat.le_trans (cutS_length _ _ _) hz, ?_⟩
  walk_at "rd"
  exact s_synced T h1 fun H2 h2 e2 => k H2 h2 (e1.trans e2)
theorem spCut_len {C CC : Addr} {fits : Str → Int → Bool} {f : Str → Int → Int → Int} : ∀ vs H Q E, spCut C CC fits f vs H Q E → vs.length = 2 := fun vs H Q E h => by
  obtain ⟨p, v, z, n, d, rfl, _⟩ := h
  rfl
theorem cnt_int {d : PyData} (h : cntOk d = true) : ∃ i, d = .int i ∧ 0 ≤ i := by
  cases d with
  | int i => exact ⟨i, rfl, by simpa [cntOk] using h⟩
  | _ => cases h
theorem cnt_no {d : PyData} (h : cntOk d = false) : ∀ i, d = .int i → 0 ≤ i → False := fun i e h0 => by
  subst e
  simp [cntOk] at h
  omega
theorem ok_Disk_lose (T : Tx K mg) : FnG P w K mg base 4 T.d_Disk_lose.f T.d_Disk_lose.fd ["self", "many"] (spCut T.C_Disk T.C_InvalidCount (fun _ _ => true) fun _ _ i => i) := by
  refine okG T.d_Disk_lose.F sc_Disk_lose spCut_len (fun cdv A outer s H vs Q E hg hr h => ?_)
  obtain ⟨p, v, z, n, d, rfl, hp, hd, hz, _, _, k1, k2⟩ := h
  refine ⟨_, (pss_cons (ps_if (pt_not (pt_val (pe_cG (ok_is_count T) T.d_is_count.b (takes_of rfl rfl rfl rfl) hg (hr.mono (by decide)) T.d_is_count.m T.d_is_count.F.kp (pa_cons (pv 1) pa_nil))))
      (pss_one (ps_err rfl (takes_of rfl rfl rfl rfl) T.e_InvalidCount (okx_InvalidCount T) T.x_InvalidCount.bi (hr.mono (by decide)) (pv 1)))
      pss_nil)
    (pss_one (ps_expr (pe_mG (pv 0) T.cl_Disk T.d_Disk__leave.me (ok_Disk__leave T) T.d_Disk__leave.b (takes_of rfl rfl rfl rfl) hg (hr.mono (by decide)) (pa_cons (pv 1) pa_nil))))), ?_⟩
  walk_at "rd"
  refine ⟨v, d, rfl, hd, fun H1 e1 => ⟨_, rfl, ?_⟩⟩
  cases e : cntOk d with
  | false =>
    walk_at "rd"
    intro dd hdd
    exact k2 (fun i h1 h2 => (cnt_no e i h1 h2).elim) dd _ (e1.free hdd) (Same.trans e1 (Same.new hdd)) upd_same
  | true =>
    walk_at "rd"
    obtain ⟨i, rfl, h0⟩ := cnt_int e
    cases hd
    refine m_disk (hp.mono e1) (by decide +kernel) (by decide +kernel) ?_
    walk_at "rd"
    exact ⟨p, i, z, n, rfl, hp.mono e1, hz, fun H2 h2 e2 => k1 i rfl h0 rfl H2 h2 ((Nv.Same.ext1 e1).trans e2)⟩
theorem ok_Disk_trim (T : Tx K mg) : FnG P w K mg base 4 T.d_Disk_trim.f T.d_Disk_trim.fd ["self", "many"] (spCut T.C_Disk T.C_InvalidCount (fun z i => decide (i ≤ (z.length : Int))) fun _ _ i => i) := by
  refine okG T.d_Disk_trim.F sc_Disk_trim spCut_len (fun cdv A outer s H vs Q E hg hr h => ?_)
  obtain ⟨p, v, z, n, d, rfl, hp, hd, hz, _, _, k1, k2⟩ := h
  refine ⟨_, (pss_cons (ps_if (PW.pt (pw_or (pt_not (pt_val (pe_cG (ok_is_count T) T.d_is_count.b (takes_of rfl rfl rfl rfl) hg (hr.mono (by decide)) T.d_is_count.m T.d_is_count.F.kp (pa_cons (pv 1) pa_nil)))) (pw_or1 (pt_cmpR op_gt (pv 1) (pe_callB call_len_str (by rfl) T.n_len (by decide +kernel) (pa_cons (pe_fld (pv 0) rfl) pa_nil)) (nomark _)))))
      (pss_one (ps_err rfl (takes_of rfl rfl rfl rfl) T.e_InvalidCount (okx_InvalidCount T) T.x_InvalidCount.bi (hr.mono (by decide)) (pv 1)))
      pss_nil)
    (pss_one (ps_expr (pe_mG (pv 0) T.cl_Disk T.d_Disk__leave.me (ok_Disk__leave T) T.d_Disk__leave.b (takes_of rfl rfl rfl rfl) hg (hr.mono (by decide)) (pa_cons (pv 1) pa_nil))))), ?_⟩
  walk_at "rd"
  refine ⟨v, d, rfl, hd, fun H1 e1 => ⟨_, rfl, ?_⟩⟩
  cases e : cntOk d with
  | false =>
    walk_at "rd"
    intro dd hdd
    exact k2 (fun i h1 h2 => (cnt_no e i h1 h2).elim) dd _ (e1.free hdd) (Same.trans e1 (Same.new hdd)) upd_same
  | true =>
    walk_at "rd"
    obtain ⟨i, rfl, h0⟩ := cnt_int e
    cases hd
    refine r_text T (hp.mono e1) ⟨z, rfl, hz, ?_⟩
    walk_at "rd"
    by_cases hi : (z.length : Int) < i
    · rw [if_pos hi]
      intro dd hdd
      refine k2 (fun j h1 h2 => ?_) dd _ (e1.free hdd) (Same.trans e1 (Same.new hdd)) upd_same
      cases h1
      exact decide_eq_false (by omega)
    · rw [if_neg hi]
      refine m_disk (hp.mono e1) (by decide +kernel) (by decide +kernel) ?_
      walk_at "rd"
      exact ⟨p, i, z, n, rfl, hp.mono e1, hz, fun H2 h2 e2 => k1 i rfl h0 (decide_eq_true (by omega)) H2 h2 ((Nv.Same.ext1 e1).trans e2)⟩
theorem ok_Disk_fall (T : Tx K mg) : FnG P w K mg base 4 T.d_Disk_fall.f T.d_Disk_fall.fd ["self", "keep"] (spCut T.C_Disk T.C_InvalidCount (fun _ _ => true) fun z n i => n + i.fmod ((z.length : Int) - n + 1)) := by
  refine okG T.d_Disk_fall.F sc_Disk_fall spCut_len (fun cdv A outer s H vs Q E hg hr h => ?_)
  obtain ⟨p, v, z, n, d, rfl, hp, hd, hz, hn0, hn1, k1, k2⟩ := h
  refine ⟨_, (pss_cons (ps_if (pt_not (pt_val (pe_cG (ok_is_count T) T.d_is_count.b (takes_of rfl rfl rfl rfl) hg (hr.mono (by decide)) T.d_is_count.m T.d_is_count.F.kp (pa_cons (pv 1) pa_nil))))
      (pss_one (ps_err rfl (takes_of rfl rfl rfl rfl) T.e_InvalidCount (okx_InvalidCount T) T.x_InvalidCount.bi (hr.mono (by decide)) (pv 1)))
      pss_nil)
    (pss_cons (ps_set (i := 2) sc_Disk_fall.nd rfl (Or.inl rfl) (pe_op op_sub (pe_callB call_len_str (by rfl) T.n_len (by decide +kernel) (pa_cons (pe_fld (pv 0) rfl) pa_nil)) (pe_fld (pv 0) rfl)))
    (pss_one (ps_expr (pe_mG (pv 0) T.cl_Disk T.d_Disk__leave.me (ok_Disk__leave T) T.d_Disk__leave.b (takes_of rfl rfl rfl rfl) hg (hr.mono (by decide)) (pa_cons (pe_op op_add (pe_fld (pv 0) rfl) (pe_op op_modN (pv 1) (pe_op op_add (pv 2) pe_int))) pa_nil)))))), ?_⟩
  walk_at "rd"
  refine ⟨v, d, rfl, hd, fun H1 e1 => ⟨_, rfl, ?_⟩⟩
  cases e : cntOk d with
  | false =>
    walk_at "rd"
    intro dd hdd
    exact k2 (fun i h1 h2 => (cnt_no e i h1 h2).elim) dd _ (e1.free hdd) (Same.trans e1 (Same.new hdd)) upd_same
  | true =>
    walk_at "rd"
    obtain ⟨i, rfl, h0⟩ := cnt_int e
    cases hd
    refine r_text T (hp.mono e1) ⟨z, rfl, hz, ?_⟩
    walk_at "rd"
    refine r_synced T (hp.mono e1) ?_
    walk_at "rd"
    refine m_disk (hp.mono e1) (by decide +kernel) (by decide +kernel) ?_
    walk_at "rd"
    refine r_synced T (hp.mono e1) ?_
    walk_at "rd"
    refine ⟨by omega, p, _, z, n, rfl, hp.mono e1, hz, fun H2 h2 e2 => k1 i rfl h0 rfl H2 h2 ((Nv.Same.ext1 e1).trans e2)⟩
end
end K04


namespace K04
open PySem L2 Nv

/-! draws -/
/-- the box of draws at p, of which at most N have been mixed -/
def BoxAt (H : Hp) (p : Addr) (N : Nat) : Prop := ∃ (n : Int) (b : Bool) (m c : Int), H p = some (.lst [.int n, .bl b, .int m, .int c]) ∧ 0 ≤ m ∧ m < 2147483648 ∧ 0 ≤ c ∧ c ≤ (N : Int)
theorem BoxAt.mono {H H' : Hp} {p : Addr} {N : Nat} (e : Same H H') (h : BoxAt H p N) : BoxAt H' p N := by
  obtain ⟨n, b, m, c, h, r⟩ := h
  exact ⟨n, b, m, c, e _ _ h, r⟩
theorem BoxAt.le {H : Hp} {p : Addr} {N M : Nat} (h : BoxAt H p N) (l : N ≤ M) : BoxAt H p M := by
  obtain ⟨n, b, m, c, h, r1, r2, r3, r4⟩ := h
  exact ⟨n, b, m, c, h, r1, r2, r3, by omega⟩
def spCell (K : PySem.W.Frag) : Sp := fun vs H Q _ => ∃ (a : Addr) (ns : List Int) (k : Int), vs = [.ref a, .int k] ∧ SqL K H a (ns.map V.int) ∧ 0 ≤ k ∧ k ≤ 1000 ∧ ∀ i H', Same H H' → Q (.int i) H'
def spBox : Sp := fun vs H Q _ => ∃ g, vs = [.int g] ∧ ∀ p H', H p = none → Same H H' → BoxAt H' p 0 → Q (.ref p) H'
def spTake : Sp := fun vs H Q _ => ∃ p m N, vs = [.ref p, .int m] ∧ BoxAt H p N ∧ N ≤ 1000000 ∧ 0 < m ∧ m < 1073741824 ∧
  ∀ d H', 0 ≤ d → d < m → BoxAt H' p (N + 1) → Ext1 p H H' → Q (.int d) H'
theorem fmod_in (a : Int) {m : Int} (h : 0 < m) : 0 ≤ a.fmod m ∧ a.fmod m < m := by
  rw [Int.fmod_eq_emod_of_nonneg a (Int.le_of_lt h)]
  exact ⟨Int.emod_nonneg a (by omega), Int.emod_lt_of_pos a h⟩
theorem at0 {α : Type} {xs : List α} {v : α} (h : xs[0]? = some v) : atI xs 0 = some v := atI_nat (j := 0) h
theorem at1 {α : Type} {xs : List α} {v : α} (h : xs[1]? = some v) : atI xs 1 = some v := atI_nat (j := 1) h
theorem at2 {α : Type} {xs : List α} {v : α} (h : xs[2]? = some v) : atI xs 2 = some v := atI_nat (j := 2) h
theorem at3 {α : Type} {xs : List α} {v : α} (h : xs[3]? = some v) : atI xs 3 = some v := atI_nat (j := 3) h
section
variable {P : Program} {w : World} {K : PySem.W.Frag} {mg : Str → Option Value} {base : Heap}
theorem ok_l_cell (T : Tx K mg) : FnG P w K mg base 1 T.d_l_cell.f T.d_l_cell.fd ["_law_script", "_law_k"] (spCell K) := by
  refine okG0 T.d_l_cell.F sc_l_cell (fun vs H Q E h => ?_) (fun cdv A outer s H vs Q E hg hr h => ?_)
  · obtain ⟨a, ns, k, rfl, _⟩ := h
    rfl
  obtain ⟨a, ns, k, rfl, hS, h0, h1, q⟩ := h
  refine ⟨_, (pss_one (ps_ret (pe_ifExp (pt_cmpR op_lt (pv 1) (pe_callB call_len_seq (by rfl) T.n_len (by decide +kernel) (pa_cons (pv 0) pa_nil)) (nomark _)) (pe_ix ix_list (pv 0) (pv 1) (fun _ _ => rfl)) (pe_op op_add (pe_op op_mul pe_int (pv 1)) (pe_op op_modN (pe_callB (cr_sum rfl) (by rfl) T.n_sum (by decide +kernel) (pa_cons (pe_slice sl_list (pv 0) po_none (po_some pe_int)) pa_nil)) pe_int))))), ?_⟩
  walk_at "rd"
  refine ⟨_, .inl hS, ?_⟩
  walk_at "rd"
  by_cases hk : k < ((ns.map V.int).length : Int)
  · rw [if_pos hk]
    obtain ⟨j, rfl⟩ : ∃ j : Nat, k = (j : Int) := ⟨k.toNat, by omega⟩
    have hj : j < ns.length := by
      rw [List.length_map] at hk
      omega
    refine r_ixL hS (atI_nat (j := j) (v := V.int ns[j]) (by simp [hj])) ?_
    exact q _ H (Same.refl H)
  · rw [if_neg hk]
    refine ⟨.inl (by decide), a, _, rfl, hS, fun p hp => ?_⟩
    walk_at "rd"
    have hc : cutV (ns.map V.int) none (some 1) = ((ns.drop (HT.sIx (ns.map V.int).length 0 none)).take (HT.sIx (ns.map V.int).length (ns.map V.int).length (some 1) - HT.sIx (ns.map V.int).length 0 none)).map V.int := by
      unfold cutV
      rw [List.map_take, List.map_drop]
    refine ⟨p, _, rfl, .inl (.inl (by rw [hc] at *; exact upd_same)), ?_⟩
    walk_at "rd"
    refine ⟨by decide, ?_⟩
    exact q _ _ (Same.new hp)
theorem ok_l_box (T : Tx K mg) : FnG P w K mg base 1 T.d_l_box.f T.d_l_box.fd ["_law_great"] spBox := by
  refine okG0 T.d_l_box.F sc_l_box (fun vs H Q E h => ?_) (fun cdv A outer s H vs Q E hg hr h => ?_)
  · obtain ⟨g, rfl, _⟩ := h
    rfl
  obtain ⟨g, rfl, q⟩ := h
  refine ⟨_, (pss_one (ps_ret (pe_lst1 (pa_cons (pe_callB call_abs (by rfl) T.n_abs (by decide +kernel) (pa_cons (pv 0) pa_nil)) (pa_cons (pe_cmpR op_ge (pe_callB call_abs (by rfl) T.n_abs (by decide +kernel) (pa_cons (pv 0) pa_nil)) (pe_op op_pow pe_int pe_int) (nomark _)) (pa_cons (pe_op op_modN (pe_callTy call_intI (by rfl) T.n_int (by decide +kernel) (pa_cons (pe_callB call_abs (by rfl) T.n_abs (by decide +kernel) (pa_cons (pv 0) pa_nil)) pa_nil)) pe_int) (pa_cons pe_int pa_nil))))))), ?_⟩
  walk_at "rd"
  refine ⟨by unfold CPow; decide, by decide, by decide, fun p hp _ => ?_⟩
  have f := fmod_in (if g < 0 then -g else g) (m := 2147483629) (by decide)
  exact q p _ hp (Same.new hp) ⟨_, _, _, _, upd_same, f.1, by omega, by decide, by decide⟩
theorem cmul_r {a b : Int} (h1 : -(2 ^ 64) < b) (h2 : b < 2 ^ 64) : CMul a b := .inr ⟨h1, h2⟩
theorem cmul_l {a b : Int} (h1 : -(2 ^ 64) < a) (h2 : a < 2 ^ 64) : CMul a b := .inl ⟨h1, h2⟩
theorem cpow_of {a e : Int} (h0 : 0 ≤ e) (h1 : e ≤ 1000000) (h2 : 0 ≤ a) (h3 : a < 2 ^ 64) : CPow a e := ⟨h0, h1, by omega⟩
theorem setIx {n : Nat} {j : Nat} (h : j < n) : ixN n (j : Int) = some j := by
  unfold ixN
  rw [if_pos (by omega), if_pos (by omega)]
  simp
local macro_rules | `(tactic| walk_at "mix") => `(tactic| (
  refine r_ixL (SqL.of (by assumption)) (at3 rfl) ?_
  walk_at "rd"
  refine r_setL (by assumption) (setIx (j := 3) (by show 3 < 4; decide)) ?_
  walk_at "rd"
  refine r_ixL (SqL.of upd_same) (at2 rfl) ?_
  walk_at "rd"
  refine r_ixL (SqL.of upd_same) (at3 rfl) ?_
  walk_at "rd"
  refine ⟨cmul_l (by decide) (by decide), cpow_of (by decide) (by decide) (by omega) (by omega), by decide, cmul_r (by decide) (by decide), ?_⟩
  refine r_ixL (SqL.of upd_same) (at3 rfl) ?_
  walk_at "rd"
  refine ⟨cmul_l (by decide) (by decide), cpow_of (by decide) (by decide) ?_ ?_, by decide, ⟨by decide, by decide⟩, by omega, ?_⟩))
theorem ok_l_take (T : Tx K mg) : FnG P w K mg base 1 T.d_l_take.f T.d_l_take.fd ["_law_box_here", "_law_many"] spTake := by
  refine okG0 T.d_l_take.F sc_l_take (fun vs H Q E h => ?_) (fun cdv A outer s H vs Q E hg hr h => ?_)
  · obtain ⟨p, m, N, rfl, _⟩ := h
    rfl
  obtain ⟨p, m, N, rfl, ⟨n, b, mm, c, hp, h1, h2, h3, h4⟩, hN, hm0, hm1, q⟩ := h
  refine ⟨_, (pss_cons (ps_if (PW.pt (pw_and (pt_val (pe_ix ix_list (pv 0) pe_int (fun _ _ => rfl))) (pw_and1 (pt_cmpR op_gt (pe_ix ix_list (pv 0) pe_int (fun _ _ => rfl)) pe_int (nomark _)))))
      (pss_cons (ps_set (i := 2) sc_l_take.nd rfl (Or.inl rfl) (pe_op op_modN (pe_callTy call_intI (by rfl) T.n_int (by decide +kernel) (pa_cons (pe_ix ix_list (pv 0) pe_int (fun _ _ => rfl)) pa_nil)) (pv 1)))
      (pss_cons (ps_asg (pe_op op_fdivN (pe_ix ix_list (pv 0) pe_int (fun _ _ => rfl)) (pv 1)) (pg_sub (pv 0) pe_int set_list))
      (pss_one (ps_ret (pv 2)))))
      pss_nil)
    (pss_cons (ps_asg (pe_op op_add (pe_ix ix_list (pv 0) pe_int (fun _ _ => rfl)) pe_int) (pg_sub (pv 0) pe_int set_list))
    (pss_cons (ps_set (i := 3) sc_l_take.nd rfl (Or.inl rfl) (pe_op op_modN (pe_callTy call_intI (by rfl) T.n_int (by decide +kernel) (pa_cons (pe_op op_pow (pe_op op_add (pe_op op_add (pe_ix ix_list (pv 0) pe_int (fun _ _ => rfl)) (pe_op op_mul pe_int (pe_ix ix_list (pv 0) pe_int (fun _ _ => rfl)))) pe_int) pe_int) pa_nil)) pe_int))
    (pss_one (ps_ret (pe_op op_modN (pe_op op_fdivN (pe_op op_modN (pe_callTy call_intI (by rfl) T.n_int (by decide +kernel) (pa_cons (pe_op op_pow (pe_op op_add (pe_op op_mul (pv 3) pe_int) (pe_op op_mul pe_int (pe_ix ix_list (pv 0) pe_int (fun _ _ => rfl)))) pe_int) pa_nil)) pe_int) pe_int) (pv 1))))))), ?_⟩
  walk_at "rd"
  refine r_ixL (SqL.of hp) (at1 rfl) ?_
  walk_at "rd"
  have f1 : ∀ a : Int, 0 ≤ a.fmod 2147483647 ∧ a.fmod 2147483647 < 2147483647 := fun a => fmod_in a (by decide)
  have fin : ∀ x : Int, Q (.int (x.fmod m)) (upd H p (.lst [.int n, .bl b, .int mm, .int (c + 1)])) := fun x =>
    q _ _ (fmod_in x hm0).1 (fmod_in x hm0).2 ⟨_, _, _, _, upd_same, h1, h2, by omega, by omega⟩ Ext1.upd
  by_cases hb : b = true
  · rw [if_pos hb]
    refine r_ixL (SqL.of hp) (at0 rfl) ?_
    walk_at "rd"
    by_cases hn : 0 < n
    · rw [if_pos hn]
      refine r_ixL (SqL.of hp) (at0 rfl) ?_
      walk_at "rd"
      refine ⟨by omega, ?_⟩
      refine r_ixL (SqL.of hp) (at0 rfl) ?_
      walk_at "rd"
      refine ⟨⟨by omega, by omega⟩, ?_⟩
      refine r_setL hp (setIx (j := 0) (by show 0 < 4; decide)) ?_
      exact q _ _ (fmod_in n hm0).1 (fmod_in n hm0).2 ⟨_, _, _, _, upd_same, h1, h2, h3, by omega⟩ Ext1.upd
    · rw [if_neg hn]
      walk_at "mix"
      · have := f1 ((mm + 15485867 * (c + 1) + 179424691) ^ (5 : Int).toNat)
        omega
      · have := f1 ((mm + 15485867 * (c + 1) + 179424691) ^ (5 : Int).toNat)
        omega
      · exact fin _
  · rw [if_neg hb]
    walk_at "mix"
    · have := f1 ((mm + 15485867 * (c + 1) + 179424691) ^ (5 : Int).toNat)
      omega
    · have := f1 ((mm + 15485867 * (c + 1) + 179424691) ^ (5 : Int).toNat)
      omega
    · exact fin _
end
end K04


namespace K04
open PySem L2 Nv

def alpha : Str := " !\"#$&'()*+,-./0123456789:;<=>?@ABCDEFGHIJKLMNOPQRSTUVWXYZ[\\]^_`abcdefghijklmnopqrstuvwxyz{|}~"
theorem alpha_len : alpha.length = 94 := by decide +kernel
theorem alpha_asc : Asc alpha := by
  have h : ∀ c ∈ alpha.cps.toList, c < 128 := by decide +kernel
  exact h
def spSigns : Sp := fun vs H Q _ => ∃ p N, vs = [.ref p] ∧ BoxAt H p N ∧ N ≤ 900000 ∧
  ∀ z H', z.length ≤ 752 → Asc z → BoxAt H' p (N + 12) → Ext1 p H H' → Q (.str z) H'
theorem alpha_at {d : Int} (h0 : 0 ≤ d) (h1 : d < 94) : ∃ c, c < 128 ∧ atI alpha.cps.toList d = some c := by
  obtain ⟨j, rfl⟩ : ∃ j : Nat, d = (j : Int) := ⟨d.toNat, by omega⟩
  have hj : j < alpha.cps.toList.length := by
    have : alpha.cps.toList.length = 94 := by decide +kernel
    omega
  refine ⟨alpha.cps.toList[j], alpha_asc _ (List.getElem_mem hj), atI_nat (by simp [hj])⟩
section
variable {P : Program} {w : World} {K : PySem.W.Frag} {mg : Str → Option Value} {base : Heap}
theorem ok_l_signs (T : Tx K mg) : FnG P w K mg base 2 T.d_l_signs.f T.d_l_signs.fd ["_law_box_here"] spSigns := by
  refine okG0 T.d_l_signs.F sc_l_signs (fun vs H Q E h => ?_) (fun cdv A outer s H vs Q E hg hr h => ?_)
  · obtain ⟨p, N, rfl, _⟩ := h
    rfl
  obtain ⟨p, N, rfl, hp, hN, q⟩ := h
  refine ⟨_, (pss_cons (ps_set (i := 1) sc_l_signs.nd rfl (Or.inr rfl) pe_str)
    (pss_cons (ps_par3 (i := 2) (j := 3) (l := 4) rfl sc_l_signs.nd rfl rfl rfl (by decide) (by decide) (by decide) rfl rfl rfl (pa_cons (pe_cG (ok_l_take T) T.d_l_take.b takes0 hg (hr.mono (by decide)) T.d_l_take.m T.d_l_take.F.kp (pa_cons (pv 0) (pa_cons pe_int pa_nil))) (pa_cons (pe_cG (ok_l_take T) T.d_l_take.b takes0 hg (hr.mono (by decide)) T.d_l_take.m T.d_l_take.F.kp (pa_cons (pv 0) (pa_cons pe_int pa_nil))) (pa_cons (pe_cG (ok_l_take T) T.d_l_take.b takes0 hg (hr.mono (by decide)) T.d_l_take.m T.d_l_take.F.kp (pa_cons (pv 0) (pa_cons pe_int pa_nil))) pa_nil))) (by rfl))
    (pss_cons (ps_if (pt_cmpR op_eq (pv 2) pe_int (nomark _))
      (pss_one (ps_ret pe_str))
      pss_nil)
    (pss_cons (ps_if (pt_cmpR op_eq (pv 2) pe_int (nomark _))
      (pss_one (ps_ret (pe_op op_add_str (pe_op op_add_str pe_str (pe_ix ix_str (pv 1) (pv 3) (fun _ _ => rfl))) (pe_op op_mul_str pe_str (pv 4)))))
      pss_nil)
    (pss_cons (ps_if (pt_cmpR op_eq (pv 2) pe_int (nomark _))
      (pss_one (ps_ret (pe_slice sl_str (pe_op op_add_str (pv 1) (pv 1)) (po_some (pv 3)) (po_some (pe_op op_add (pe_op op_add (pv 3) pe_int) (pe_op op_mul pe_int (pv 4)))))))
      pss_nil)
    (pss_cons (ps_if (pt_cmpR op_eq (pv 2) pe_int (nomark _))
      (pss_one (ps_ret (pe_op op_mul_str (pe_ix ix_str (pv 1) (pv 3) (fun _ _ => rfl)) (pe_op op_mul pe_int (pv 4)))))
      pss_nil)
    (pss_one (ps_ret (pe_join pe_str (pe_lc (own := [("_law_turn", 5)]) (g := gName 5) (tt := tYes) rfl sc_l_signs.nd (pi_range1 (by rfl) T.n_range (pa_cons (pv 4) pa_nil)) (blkOk_by (N := ["_law_box_here", "_law_alphabet", "_law_kind", "_law_at", "_law_many", "_law_turn"]) (sc := defScope s_l_signs) (by decide +kernel)) (fun _ _ _ _ _ => pg_name (i := 5) sc_l_signs.nd rfl (Or.inl rfl)) (fun _ _ _ _ _ => pts_nil) (fun _ _ _ _ _ => (pe_ix ix_str (pv 1) (pe_cG (ok_l_take T) T.d_l_take.b takes0 hg (hr.mono (by decide)) T.d_l_take.m T.d_l_take.F.kp (pa_cons (pv 0) (pa_cons pe_int pa_nil))) (fun _ _ => rfl))))))))))))), ?_⟩
  walk_at "rd"
  refine ⟨p, 6, N, rfl, hp, by omega, by decide, by decide, fun kind H1 k0 k1 hp1 e1 => ?_⟩
  refine ⟨p, 94, _, rfl, hp1, by omega, by decide, by decide, fun at_ H2 a0 a1 hp2 e2 => ?_⟩
  refine ⟨p, 9, _, rfl, hp2, by omega, by decide, by decide, fun many H3 m0 m1 hp3 e3 => ?_⟩
  have E3 : Ext1 p H H3 := (e1.trans e2).trans e3
  walk_at "rd"
  have bx : BoxAt H3 p (N + 12) := hp3.le (by omega)
  refine ⟨rfl, ?_⟩
  have sz : sizeLine = 16777216 := sizeLine_eq
  obtain ⟨c, hc, hat⟩ := alpha_at a0 a1
  have hat' : atI (Str.ofString " !\"#$&'()*+,-./0123456789:;<=>?@ABCDEFGHIJKLMNOPQRSTUVWXYZ[\\]^_`abcdefghijklmnopqrstuvwxyz{|}~").cps.toList at_ = some c := hat
  have al : (Str.ofString " !\"#$&'()*+,-./0123456789:;<=>?@ABCDEFGHIJKLMNOPQRSTUVWXYZ[\\]^_`abcdefghijklmnopqrstuvwxyz{|}~").length = 94 := alpha_len
  have aa : Asc (Str.ofString " !\"#$&'()*+,-./0123456789:;<=>?@ABCDEFGHIJKLMNOPQRSTUVWXYZ[\\]^_`abcdefghijklmnopqrstuvwxyz{|}~") := alpha_asc
  have bl : (Str.ofString " ").length = 1 := by decide +kernel
  have ba : Asc (Str.ofString " ") := by
    have h : ∀ c ∈ (Str.ofString " ").cps.toList, c < 128 := by decide +kernel
    exact h
  have one : (⟨#[c]⟩ : Str).length = 1 := rfl
  by_cases h0 : kind = 0
  · rw [if_pos h0]
    exact q _ H3 (by decide +kernel) Asc.empty bx E3
  rw [if_neg h0]
  refine ⟨rfl, ?_⟩
  by_cases h1 : kind = 1
  · rw [if_pos h1]
    refine ⟨_, _, c, rfl, rfl, by rw [al, sz]; omega, hat', ?_⟩
    walk_at "rd"
    have ml := mul_len (Str.ofString " ") many
    have ml2 : (Str.ofString " ").length * many.toNat ≤ 9 := by
      rw [bl]
      omega
    refine ⟨by rw [bl, one, sz]; decide, mulOk_of (by omega) (by omega) (by rw [bl]; decide), ?_, ?_⟩
    · rw [append_len, bl, one, sz]
      omega
    · refine q _ H3 ?_ ((ba.app (.one hc)).app (ba.mul _)) bx E3
      rw [append_len, append_len, bl, one]
      omega
  rw [if_neg h1]
  refine ⟨rfl, ?_⟩
  by_cases h2 : kind = 2
  · rw [if_pos h2]
    walk_at "rd"
    refine ⟨by rw [al, sz]; omega, cmul_l (by decide) (by decide), by rw [append_len, al, sz]; omega, ?_⟩
    refine q _ H3 ?_ ((aa.app aa).cut _ _) bx E3
    have := cutS_length (alpha ++ alpha) (some at_) (some (at_ + 10 + 4 * many))
    have l2 : (alpha ++ alpha).length = 188 := by rw [append_len, alpha_len]
    exact Nat.le_trans this (by omega)
  rw [if_neg h2]
  refine ⟨rfl, ?_⟩
  by_cases h3 : kind = 3
  · rw [if_pos h3]
    refine ⟨_, _, c, rfl, rfl, by rw [al, sz]; omega, hat', ?_⟩
    walk_at "rd"
    have ml := mul_len (⟨#[c]⟩ : Str) (80 * many)
    have ml2 : (⟨#[c]⟩ : Str).length * (80 * many).toNat ≤ 720 := by
      rw [one]
      omega
    exact ⟨cmul_l (by decide) (by decide), mulOk_of (by omega) (by omega) (by rw [one]; decide), q _ H3 (by omega) ((Asc.one hc).mul _) bx E3⟩
  rw [if_neg h3]
  refine ⟨⟨_, rfl⟩, _, rfl, many, rfl, by omega, by omega, fun D hD => ?_⟩
  obtain ⟨_, _, _, _, hpB, _⟩ := id hp3
  have nD : D ≠ p := fun z => by
    rw [z, hpB] at hD
    cases hD
  refine lc_range (lo := 0) (n := many.toNat) (fun i H' => ∃ l : List Nat, l.length = i ∧ (∀ c ∈ l, c < 128) ∧ H' D = some (.lst (l.map fun c => V.str ⟨#[c]⟩)) ∧ BoxAt H' p (N + 3 + i) ∧ Ext1 p H3 H')
    ⟨[], rfl, (by simp), upd_same, ?_, fun a o na ha => ?_⟩ ?_ ?_
  · obtain ⟨n, b, m, cc, hx, r⟩ := hp3
    exact ⟨n, b, m, cc, by rw [upd_ne (Ne.symm nD)]; exact hx, r⟩
  · rw [upd_ne (ne_of_none ha hD)]
    exact ha
  · rintro i H' hi ⟨l, hl, hb, hD', hB, hE⟩
    refine ⟨rfl, ?_⟩
    walk_at "rd"
    refine ⟨p, 94, _, rfl, hB, by omega, by decide, by decide, fun d H4 d0 d1 hB4 e4 => ?_⟩
    obtain ⟨c2, hc2, hat2⟩ := alpha_at d0 d1
    refine ⟨_, _, c2, rfl, rfl, by rw [al, sz]; omega, hat2, l.map fun c => V.str ⟨#[c]⟩, e4 _ _ nD hD', ?_, l ++ [c2], by simp [hl], ?_, ?_, ?_, ?_⟩
    · rw [List.length_map, hl, sz]
      omega
    · intro c hc
      rcases List.mem_append.mp hc with h | h
      · exact hb c h
      · have : c = c2 := by simpa using h
        omega
    · simp
    · obtain ⟨n, b, m, cc, hx, r1, r2, r3, r4⟩ := hB4
      exact ⟨n, b, m, cc, by rw [upd_ne (Ne.symm nD)]; exact hx, r1, r2, r3, by omega⟩
    · intro a o na ha
      rw [upd_ne (ne_of_none ha hD)]
      exact e4 a o na (hE a o na ha)
  · rintro H' ⟨l, hl, hb, hD', hB, hE⟩
    refine ⟨D, rfl, l.map fun c => ⟨#[c]⟩, .inl (.inl (.inl ?_)), ?_, ?_⟩
    · rw [hD']
      simp [List.map_map, Function.comp_def]
    · have : (Str.ofString "").length = 0 := by decide +kernel
      rw [this]
      have hs : ((l.map fun c => (⟨#[c]⟩ : Str)).map fun x => x.length).sum = l.length := by
        clear hl hb hD'
        induction l with
        | nil => rfl
        | cons a r ih => simp only [List.map_cons, List.sum_cons, ih, List.length_cons]; show 1 + _ = _; omega
      rw [hs]
      omega
    · have e : Txt.join (Str.ofString "") (l.map fun c => (⟨#[c]⟩ : Str)) = ⟨l.toArray⟩ := join_signs l
      rw [e]
      refine q _ H' ?_ (Asc.signs hb) (hB.le (by omega)) (E3.trans hE)
      show l.toArray.size ≤ 752
      simp
      omega
end
end K04


namespace K04
open PySem L2 Nv

/-! drawn values -/
inductive FD : V → PyData → Prop
  | non : FD .non .none
  | bl (b : Bool) : FD (.bl b) (.bool b)
  | int (i : Int) (h : -(10 ^ 21) ≤ i ∧ i ≤ 10 ^ 21) : FD (.int i) (.int i)
  | str (z : Str) (h : z.length ≤ 1000) (a : Asc z) : FD (.str z) (.str z)
inductive V1 (H : Hp) : V → PyData → Prop
  | flat {v : V} {d : PyData} : FD v d → V1 H v d
  | lst {a : Addr} {xs : List V} {ds : List PyData} : H a = some (.lst xs) → a ≠ sysModules → Paired FD xs ds → xs.length ≤ 3 → V1 H (.ref a) (.list ds)
  | tup {a : Addr} {xs : List V} {ds : List PyData} : H a = some (.tup xs) → Paired FD xs ds → xs.length ≤ 3 → V1 H (.ref a) (.tuple ds)
  | dct {a : Addr} {k : Str} {x : V} {d : PyData} : H a = some (.dK [(Sum.inr k, x)]) → k.length ≤ 10 → Asc k → FD x d → V1 H (.ref a) (.dict [(.str k, d)])
theorem V1.mono {H H' : Hp} {v : V} {d : PyData} (e : ∀ a o, v = .ref a → H a = some o → H' a = some o) (h : V1 H v d) : V1 H' v d := by
  cases h with
  | flat f => exact .flat f
  | lst h n p l => exact .lst (e _ _ rfl h) n p l
  | tup h p l => exact .tup (e _ _ rfl h) p l
  | dct h a b f => exact .dct (e _ _ rfl h) a b f
theorem FD.dv {H : Hp} {v : V} {d : PyData} (h : FD v d) : DV H v d := by
  cases h with
  | non => exact .non
  | bl b => exact .bl b
  | int i _ => exact .int i
  | str z _ _ => exact .str z
theorem FD.dvs {H : Hp} : ∀ {xs : List V} {ds : List PyData}, Paired FD xs ds → DVs H xs ds
  | _, _, .nil => .nil
  | _, _, .cons h t => .cons h.dv (FD.dvs t)
theorem V1.dv {H : Hp} {v : V} {d : PyData} (h : V1 H v d) : DV H v d := by
  cases h with
  | flat f => exact f.dv
  | lst h n p l => exact .lst h n (FD.dvs p)
  | tup h p l => exact .tup h (FD.dvs p)
  | dct h a b f => exact .dct h (.cons (k := Sum.inr _) f.dv .nil)
/-- v stands apart from all that H tracks -/
def Apart (H : Hp) (v : V) : Prop := ∀ a, v = .ref a → H a = none
theorem apart_flat {H : Hp} {v : V} {d : PyData} (h : FD v d) : Apart H v := fun a e => by
  subst e
  cases h

def spOddS : Sp := fun vs H Q _ => ∃ k z, vs = [.int k, .str z] ∧ 0 ≤ k ∧ k < 12 ∧ z.length ≤ 752 ∧ Asc z ∧ ∀ v d H', V1 H' v d → Apart H v → Same H H' → Q v H'
def spOddC : Sp := fun vs H Q _ => ∃ k, vs = [.int k] ∧ 0 ≤ k ∧ k < 12 ∧ ∀ v d H', V1 H' v d → Apart H v → Same H H' → Q v H'
theorem twelve {k : Int} (h0 : 0 ≤ k) (h1 : k < 12) : k = ((0 : Nat) : Int) ∨ k = ((1 : Nat) : Int) ∨ k = ((2 : Nat) : Int) ∨ k = ((3 : Nat) : Int) ∨ k = ((4 : Nat) : Int) ∨ k = ((5 : Nat) : Int) ∨ k = ((6 : Nat) : Int) ∨ k = ((7 : Nat) : Int) ∨
    k = ((8 : Nat) : Int) ∨ k = ((9 : Nat) : Int) ∨ k = ((10 : Nat) : Int) ∨ k = ((11 : Nat) : Int) := by omega
section
variable {P : Program} {w : World} {K : PySem.W.Frag} {mg : Str → Option Value} {base : Heap}
theorem ok_l_odd_signs (T : Tx K mg) : FnG P w K mg base 1 T.d_l_odd_signs.f T.d_l_odd_signs.fd ["_law_kind", "_law_signs_here"] spOddS := by
  refine okG0 T.d_l_odd_signs.F sc_l_odd_signs (fun vs H Q E h => ?_) (fun cdv A outer s H vs Q E hg hr h => ?_)
  · obtain ⟨k, z, rfl, _⟩ := h
    rfl
  obtain ⟨k, z, rfl, k0, k1, hz, ha, q⟩ := h
  refine ⟨_, (pss_one (ps_ret (pe_ix ix_list (pe_lst1 (pa_cons (pe_op op_add_str (pv 1) pe_str) (pa_cons pe_str (pa_cons pe_str (pa_cons pe_non (pa_cons pe_int (pa_cons pe_bl (pa_cons (pe_lst1 (pa_cons (pv 1) pa_nil)) (pa_cons (pe_tup (pa_cons (pv 1) (pa_cons pe_str pa_nil))) (pa_cons (pe_disp (pps_cons pe_str (pv 1) pps_nil) (by rfl) (by rfl) (fun z => by cases z) (by decide)) (pa_cons (pe_lst1 pa_nil) (pa_cons pe_int (pa_cons pe_bl pa_nil))))))))))))) (pv 0) (fun _ _ => rfl)))), ?_⟩
  walk_at "rd"
  have sz : sizeLine = 16777216 := sizeLine_eq
  refine ⟨by rw [sz, show (Str.ofString "\n").length = 1 from by decide +kernel]; omega, by decide, ?_⟩
  intro p1 hp1 n1
  obtain ⟨H1, e1, S1, f1⟩ := gen_new (.lst [V.str z]) hp1
  simp only [e1]
  refine ⟨by decide, ?_⟩
  intro p2 hp2
  obtain ⟨H2, e2, S2, f2⟩ := gen_new (.tup [V.str z, V.str (Str.ofString "a")]) hp2
  simp only [e2]
  intro p3 hp3
  refine ⟨[(Sum.inr (Str.ofString "a"), V.str z)], rfl, by show 1 ≤ 15; decide, by decide, ?_⟩
  obtain ⟨H3, e3, S3, f3⟩ := gen_new (.dK (mergeK [] [((Sum.inr (Str.ofString "a") : Key), V.str z)])) hp3
  simp only [e3]
  intro p4 hp4 n4
  obtain ⟨H4, e4, S4, f4⟩ := gen_new (.lst []) hp4
  simp only [e4]
  refine ⟨by decide, ?_⟩
  intro p5 hp5 n5
  obtain ⟨H5, e5, S5, f5⟩ := gen_new (.lst [V.str (z ++ Str.ofString "\n"), V.str (Str.ofString "\n"), V.str (Str.ofString "a\tb"), V.non, V.int 5, V.bl true, V.ref p1, V.ref p2, V.ref p3, V.ref p4, V.int 0, V.bl false]) hp5
  simp only [e5]
  have SH : Same H H5 := Same.trans S1 (Same.trans S2 (Same.trans S3 (Same.trans S4 S5)))
  have a2 : H p2 = none := S1.free hp2
  have a3 : H p3 = none := S1.free (S2.free hp3)
  have a4 : H p4 = none := S1.free (S2.free (S3.free hp4))
  have ap : ∀ {p : Addr}, H p = none → Apart H (.ref p) := fun h a e => by
    cases e
    exact h
  have nl : Asc (Str.ofString "\n") := by
    have h : ∀ c ∈ (Str.ofString "\n").cps.toList, c < 128 := by decide +kernel
    exact h
  have tb : Asc (Str.ofString "a\tb") := by
    have h : ∀ c ∈ (Str.ofString "a\tb").cps.toList, c < 128 := by decide +kernel
    exact h
  have aA : Asc (Str.ofString "a") := by
    have h : ∀ c ∈ (Str.ofString "a").cps.toList, c < 128 := by decide +kernel
    exact h
  have fl : ∀ {v : V} {d : PyData}, FD v d → Q v H5 := fun h => q _ _ H5 (.flat h) (apart_flat h) SH
  have zl : FD (.str z) (.str z) := .str z (by omega) ha
  have lnl : (Str.ofString "\n").length = 1 := by decide +kernel
  rcases twelve k0 k1 with e | e | e | e | e | e | e | e | e | e | e | e <;> subst e <;> refine r_ixL (SqL.of f5) (atI_nat rfl) ?_
  · exact fl (.str _ (by rw [append_len, lnl]; omega) (ha.app nl))
  · exact fl (.str _ (by rw [lnl]; decide) nl)
  · exact fl (.str _ (by decide +kernel) tb)
  · exact fl .non
  · exact fl (.int _ (by decide))
  · exact fl (.bl _)
  · exact q _ _ H5 (.lst (S5 _ _ (S4 _ _ (S3 _ _ (S2 _ _ f1)))) n1 (.cons zl .nil) (by show 1 ≤ 3; decide)) (ap hp1) SH
  · exact q _ _ H5 (.tup (S5 _ _ (S4 _ _ (S3 _ _ f2))) (.cons zl (.cons (.str _ (by decide +kernel) aA) .nil)) (by show 2 ≤ 3; decide)) (ap a2) SH
  · exact q _ _ H5 (.dct (S5 _ _ (S4 _ _ f3)) (by decide +kernel) aA zl) (ap a3) SH
  · exact q _ _ H5 (.lst (S5 _ _ f4) n4 .nil (by decide)) (ap a4) SH
  · exact fl (.int _ (by decide))
  · exact fl (.bl _)
theorem ok_l_odd_count (T : Tx K mg) : FnG P w K mg base 1 T.d_l_odd_count.f T.d_l_odd_count.fd ["_law_kind"] spOddC := by
  refine okG0 T.d_l_odd_count.F sc_l_odd_count (fun vs H Q E h => ?_) (fun cdv A outer s H vs Q E hg hr h => ?_)
  · obtain ⟨k, rfl, _⟩ := h
    rfl
  obtain ⟨k, rfl, k0, k1, q⟩ := h
  refine ⟨_, (pss_one (ps_ret (pe_ix ix_list (pe_lst1 (pa_cons (pe_un un_neg pe_int) (pa_cons pe_bl (pa_cons pe_non (pa_cons pe_str (pa_cons (pe_lst1 (pa_cons pe_int pa_nil)) (pa_cons pe_bl (pa_cons (pe_tup (pa_cons pe_int pa_nil)) (pa_cons (pe_disp (pps_cons pe_str pe_int pps_nil) (by rfl) (by rfl) (fun z => by cases z) (by decide)) (pa_cons (pe_un un_neg (pe_op op_pow pe_int pe_int)) (pa_cons pe_str (pa_cons (pe_lst1 pa_nil) (pa_cons (pe_un un_neg pe_int) pa_nil))))))))))))) (pv 0) (fun _ _ => rfl)))), ?_⟩
  walk_at "rd"
  refine ⟨by decide, ?_⟩
  intro p1 hp1 n1
  obtain ⟨H1, e1, S1, f1⟩ := gen_new (.lst [V.int 0]) hp1
  simp only [e1]
  refine ⟨by decide, ?_⟩
  intro p2 hp2
  obtain ⟨H2, e2, S2, f2⟩ := gen_new (.tup [V.int 1]) hp2
  simp only [e2]
  intro p3 hp3
  refine ⟨[(Sum.inr (Str.ofString "a"), V.int 1)], rfl, by decide, by unfold CPow; decide, by decide, ?_⟩
  obtain ⟨H3, e3, S3, f3⟩ := gen_new (.dK (mergeK [] [((Sum.inr (Str.ofString "a") : Key), V.int 1)])) hp3
  simp only [e3]
  intro p4 hp4 n4
  obtain ⟨H4, e4, S4, f4⟩ := gen_new (.lst []) hp4
  simp only [e4]
  refine ⟨by decide, ?_⟩
  intro p5 hp5 n5
  obtain ⟨H5, e5, S5, f5⟩ := gen_new (.lst [V.int (-1), V.bl true, V.non, V.str (Str.ofString "0"), V.ref p1, V.bl false, V.ref p2, V.ref p3, V.int (-10 ^ Int.toNat 19), V.str (Str.ofString ""), V.ref p4, V.int (-2)]) hp5
  simp only [e5]
  have SH : Same H H5 := Same.trans S1 (Same.trans S2 (Same.trans S3 (Same.trans S4 S5)))
  have a2 : H p2 = none := S1.free hp2
  have a3 : H p3 = none := S1.free (S2.free hp3)
  have a4 : H p4 = none := S1.free (S2.free (S3.free hp4))
  have ap : ∀ {p : Addr}, H p = none → Apart H (.ref p) := fun h a e => by
    cases e
    exact h
  have zr : Asc (Str.ofString "0") := by
    have h : ∀ c ∈ (Str.ofString "0").cps.toList, c < 128 := by decide +kernel
    exact h
  have aA : Asc (Str.ofString "a") := by
    have h : ∀ c ∈ (Str.ofString "a").cps.toList, c < 128 := by decide +kernel
    exact h
  have fl : ∀ {v : V} {d : PyData}, FD v d → Q v H5 := fun h => q _ _ H5 (.flat h) (apart_flat h) SH
  rcases twelve k0 k1 with e | e | e | e | e | e | e | e | e | e | e | e <;> subst e <;> refine r_ixL (SqL.of f5) (atI_nat rfl) ?_
  · exact fl (.int _ (by decide))
  · exact fl (.bl _)
  · exact fl .non
  · exact fl (.str _ (by decide +kernel) zr)
  · exact q _ _ H5 (.lst (S5 _ _ (S4 _ _ (S3 _ _ (S2 _ _ f1)))) n1 (.cons (.int _ (by decide)) .nil) (by decide)) (ap hp1) SH
  · exact fl (.bl _)
  · exact q _ _ H5 (.tup (S5 _ _ (S4 _ _ (S3 _ _ f2))) (.cons (.int _ (by decide)) .nil) (by decide)) (ap a2) SH
  · exact q _ _ H5 (.dct (S5 _ _ (S4 _ _ f3)) (by decide +kernel) aA (.int _ (by decide))) (ap a3) SH
  · exact fl (.int _ (by decide))
  · exact fl (.str _ (by decide +kernel) Asc.empty)
  · exact q _ _ H5 (.lst (S5 _ _ f4) n4 .nil (by decide)) (ap a4) SH
  · exact fl (.int _ (by decide))
theorem ok_l_is_count (T : Tx K mg) : FnG P w K mg base 1 T.d_l_is_count.f T.d_l_is_count.fd ["_law_value"] (spJ cntOk) := by
  refine okG0 T.d_l_is_count.F sc_l_is_count spJ_len (fun cdv A outer s H vs Q E hg hr h => ?_)
  obtain ⟨v, d, rfl, hd, k⟩ := h
  refine ⟨_, (pss_one (ps_ret (pe_and (pe_callB call_isi (by rfl) T.n_isinstance (by decide +kernel) (pa_cons (pv 0) (pa_cons (pe_bltn (v := .ty "int") (by rfl) T.n_int (by decide +kernel) rfl) pa_nil))) (pe_and (pe_not (pe_callB call_isi (by rfl) T.n_isinstance (by decide +kernel) (pa_cons (pv 0) (pa_cons (pe_bltn (v := .ty "bool") (by rfl) T.n_bool (by decide +kernel) rfl) pa_nil)))) (pe_one (pe_cmpR op_ge (pv 0) pe_int (nomark _))))))), ?_⟩
  walk_at "rd"
  refine r_isi hd (kit_int d) ?_
  walk_at "rd"
  have fin := k H (Same.refl H)
  cases hd with
  | int i =>
    simp only [isI, isB, Bool.true_or, ↓reduceIte]
    refine r_isi (.int i) (kit_bool _) ?_
    simp only [isB]
    walk_at "rd"
    exact fin
  | bl b =>
    simp only [isI, isB, Bool.or_true, ↓reduceIte]
    refine r_isi (.bl b) (kit_bool _) ?_
    simp only [isB]
    walk_at "rd"
    exact fin
  | _ =>
    simp only [isI, isB, Bool.or_false, Bool.false_eq_true, ↓reduceIte]
    exact fin
def spLeft : Sp := fun vs H Q E => ∃ p i z n, vs = [.ref p, .int i] ∧ H p = some (.lst [.str z, .int n]) ∧ z.length ≤ sizeLine ∧
  ∀ l H', H l = none → l ≠ sysModules → H' l = some (.lst [.str "told", .non]) → H' p = some (.lst [.str (firsts z i), .int ((firsts z i).length : Int)]) → Ext1 p H H' → Q (.ref l) H'
theorem ok_l_left (T : Tx K mg) : FnG P w K mg base 1 T.d_l_left.f T.d_l_left.fd ["_law_state", "_law_many"] spLeft := by
  refine okG0 T.d_l_left.F sc_l_left (fun vs H Q E h => ?_) (fun cdv A outer s H vs Q E hg hr h => ?_)
  · obtain ⟨p, i, z, n, rfl, _⟩ := h
    rfl
  obtain ⟨p, i, z, n, rfl, hp, hz, q⟩ := h
  refine ⟨_, (pss_cons (ps_asg (pe_slice sl_str (pe_ix ix_list (pv 0) pe_int (fun _ _ => rfl)) po_none (po_some (pv 1))) (pg_sub (pv 0) pe_int set_list))
    (pss_cons (ps_asg (pe_callB call_len_str (by rfl) T.n_len (by decide +kernel) (pa_cons (pe_ix ix_list (pv 0) pe_int (fun _ _ => rfl)) pa_nil)) (pg_sub (pv 0) pe_int set_list))
    (pss_one (ps_ret (pe_lst1 (pa_cons pe_str (pa_cons pe_non pa_nil))))))), ?_⟩
  walk_at "rd"
  refine r_ixL (SqL.of hp) (at0 rfl) ?_
  walk_at "rd"
  refine ⟨hz, r_setL hp (setIx (j := 0) (by show 0 < 2; decide)) ?_⟩
  walk_at "rd"
  refine r_ixL (SqL.of upd_same) (at0 rfl) ?_
  walk_at "rd"
  refine ⟨Nat.le_trans (cutS_length _ _ _) hz, ?_⟩
  refine r_setL upd_same (setIx (j := 1) (by show 1 < 2; decide)) ?_
  walk_at "rd"
  refine ⟨by decide, fun l hl nl => ?_⟩
  have npl : l ≠ p := fun e => by
    rw [e, upd_same] at hl
    cases hl
  have hl' : H l = none := by
    rw [upd_ne npl] at hl
    exact hl
  refine q l _ hl' nl upd_same ?_ ?_
  · rw [upd_ne (Ne.symm npl), upd_same]
    rfl
  · intro a o na ha
    rw [upd_ne (ne_of_none ha hl'), upd_ne na]
    exact ha
end
end K04


namespace K04
open PySem L2 Nv

def plainC (c : Nat) : Bool := decide (32 ≤ c) && decide (c ≤ 126)
theorem prn : ∀ c, c < 128 → Unicode.isPrintable c = plainC c := by decide +kernel
theorem good_all (z : Str) : good z = z.cps.toList.all plainC := by
  unfold good Txt.isascii Txt.isprintable
  rw [← Array.all_toList, ← Array.all_toList]
  generalize z.cps.toList = l
  induction l with
  | nil => rfl
  | cons c r ih =>
    simp only [List.all_cons]
    rw [← ih]
    by_cases h : c < 128
    · simp only [h, decide_true, Bool.true_and]
      rw [prn c h]
      cases plainC c <;> cases (r.all fun x => decide (x < 128)) <;> simp
    · have hp : plainC c = false := by
        unfold plainC
        simp
        omega
      simp [h, hp]
theorem one_lt (a b : Nat) : (([a] : List Nat) < [b]) ↔ a < b := by
  simp [List.cons_lt_cons_iff]
theorem take_filter {l : List Nat} {i c : Nat} {f : Nat → Bool} (h : l[i]? = some c) : (l.take (i + 1)).filter f = (l.take i).filter f ++ (if f c then [c] else []) := by
  have e : l.take (i + 1) = l.take i ++ [c] := by
    rw [List.take_add_one, h]
    rfl
  rw [e, List.filter_append]
  congr 1
  cases hf : f c <;> simp [hf]
theorem dp_strs {K : PySem.W.Frag} {H : Hp} : ∀ l : List Nat, DpAll K H (l.map fun c => V.str ⟨#[c]⟩) (l.map fun c => PyData.str ⟨#[c]⟩)
  | [] => .nil
  | c :: r => .cons (.str _) (dp_strs r)
theorem strs_lay (l : List Nat) (h : ∀ c ∈ l, c < 128) : PyData.canLayAll0 (l.map fun c => PyData.str ⟨#[c]⟩) = true := by
  induction l with
  | nil => rfl
  | cons c r ih =>
    have hc : c < 0x110000 := Nat.lt_of_lt_of_le (h c (by simp)) (by decide)
    simp [PyData.canLayAll0, PyData.canLay0, PyData.strOk, ih (fun c hc => h c (by simp [hc])), hc]
theorem strs_depth (l : List Nat) : PyData.depthAll (l.map fun c => PyData.str ⟨#[c]⟩) = 0 := by
  induction l with
  | nil => rfl
  | cons c r ih => simp [PyData.depthAll, PyData.depth, ih]
theorem shaped_strs (l : List Nat) (h : ∀ c ∈ l, c < 128) : SeqAt.shaped (.list (l.map fun c => PyData.str ⟨#[c]⟩)) = true := by
  unfold SeqAt.shaped
  simp only [PyData.canLay0, strs_lay l h, PyData.depth, strs_depth]
  rfl
theorem eqv_nil (l : List Nat) : PyData.eqv (.list (l.map fun c => PyData.str ⟨#[c]⟩)) (.list []) = l.isEmpty := by
  cases l <;> simp [PyData.eqv, PyData.eqvAll]
theorem filt_all (f : Nat → Bool) (l : List Nat) : (l.filter fun c => !f c).isEmpty = l.all f := by
  induction l with
  | nil => rfl
  | cons c r ih =>
    simp only [List.filter_cons, List.all_cons]
    cases f c <;> simp [ih]
def spJz (g : PyData → Bool) : Sp := fun vs H Q _ => ∃ v d, vs = [v] ∧ DV H v d ∧ (∀ z, d = .str z → z.length ≤ 100000 ∧ Asc z) ∧ ∀ H', Same H H' → Q (.bl (g d)) H'
section
variable {P : Program} {w : World} {K : PySem.W.Frag} {mg : Str → Option Value} {base : Heap}
theorem ok_l_is_signs (T : Tx K mg) : FnG P w K mg base 1 T.d_l_is_signs.f T.d_l_is_signs.fd ["_law_value"] (spJz sigOk) := by
  refine okG0 T.d_l_is_signs.F sc_l_is_signs (fun vs H Q E h => ?_) (fun cdv A outer s H vs Q E hg hr h => ?_)
  · obtain ⟨v, d, rfl, _⟩ := h
    rfl
  obtain ⟨v, d, rfl, hd, hz, k⟩ := h
  refine ⟨_, (pss_one (ps_ret (pe_and (pe_callB call_isi (by rfl) T.n_isinstance (by decide +kernel) (pa_cons (pv 0) (pa_cons (pe_bltn (v := .ty "str") (by rfl) T.n_str (by decide +kernel) rfl) pa_nil))) (pe_one (pe_cmpR (op_eqD hr.units) (pe_lc (own := [("_law_sign", 1)]) (g := gName 1) rfl sc_l_is_signs.nd (pi_str (pv 0)) (blkOk_by (N := ["_law_value", "_law_sign"]) (sc := defScope s_l_is_signs) (by decide +kernel)) (fun _ _ _ _ _ => pg_name (i := 1) sc_l_is_signs.nd rfl (Or.inl rfl)) (fun _ _ _ _ _ => (pts_one (pt_not (pt_chain op_le_str op_le_str pe_str (pv 1) pe_str)))) (fun _ _ _ _ _ => (pv 1))) (pe_lst1 pa_nil) (nomark _)))))), ?_⟩
  walk_at "rd"
  refine r_isi hd (kit_str d) ?_
  walk_at "rd"
  cases hd with
  | str z =>
    obtain ⟨hz, za⟩ := hz z rfl
    simp only [isS, ↓reduceIte]
    have sz : sizeLine = 16777216 := sizeLine_eq
    refine ⟨V.str z, rfl, z, rfl, fun D hD => ?_⟩
    refine lc_it walk_str (fun i H' => H' D = some (.lst (((z.cps.toList.take i).filter fun c => !plainC c).map fun c => V.str ⟨#[c]⟩)) ∧ Same H H') ⟨upd_same, Same.new hD⟩ (fun _ _ _ _ => trivial) ?_ ?_
    · rintro i x H1 H2 hi ⟨f, S⟩ ⟨rfl, c, hc, rfl⟩
      have hc' : z.cps.toList[i]? = some c := by
        rw [Array.getElem?_toList]
        exact hc
      refine ⟨rfl, ?_⟩
      walk_at "rd"
      have e1 : (Str.ofString " ").cps.toList = [32] := by decide +kernel
      have e2 : (Str.ofString "~").cps.toList = [126] := by decide +kernel
      simp only [e1, e2, one_lt, decide_eq_false_iff_not]
      have hlen : (((z.cps.toList.take i).filter fun c => !plainC c).map fun c => V.str ⟨#[c]⟩).length < sizeLine := by
        rw [List.length_map, sz]
        have h1 := List.length_filter_le (fun c => !plainC c) (z.cps.toList.take i)
        have h2 : (z.cps.toList.take i).length ≤ z.cps.toList.length := by
          rw [List.length_take]
          omega
        have h3 : z.cps.toList.length = z.length := by simp [Str.length]
        omega
      have hsame : ∀ o, Same H (upd H2 D o) := fun o a u ha => by
        rw [upd_ne (ne_of_none ha hD)]
        exact S a u ha
      have hnew : plainC c = false → ((z.cps.toList.take (i + 1)).filter fun c => !plainC c) = ((z.cps.toList.take i).filter fun c => !plainC c) ++ [c] := fun hp => by
        rw [take_filter hc']
        simp [hp]
      by_cases h1 : c < 32
      · simp only [h1, not_true_eq_false, ↓reduceIte]
        refine ⟨_, f, hlen, ?_, hsame _⟩
        rw [hnew (by unfold plainC; simp; omega)]
        simp
      · simp only [h1, not_false_eq_true, ↓reduceIte]
        walk_at "rd"
        by_cases h2 : 126 < c
        · simp only [h2, not_true_eq_false, ↓reduceIte]
          refine ⟨_, f, hlen, ?_, hsame _⟩
          rw [hnew (by unfold plainC; simp; omega)]
          simp
        · simp only [h2, not_false_eq_true, ↓reduceIte]
          refine ⟨?_, S⟩
          rw [take_filter hc']
          have : plainC c = true := by unfold plainC; simp; omega
          simp [this, f]
    · rintro H1 ⟨f, S⟩
      refine ⟨by decide, fun p hp np => ?_⟩
      have e : z.cps.toList.take z.cps.size = z.cps.toList := by
        apply List.take_of_length_le
        simp
      rw [e] at f
      have npD : D ≠ p := ne_of_none f hp
      refine ⟨_, _, .lst (SqL.of (by rw [upd_ne npD]; exact f)) (dp_strs _), .lst (SqL.of upd_same) .nil, shaped_strs _ (fun c hc => za c (List.mem_filter.mp hc).1), shaped_strs [] (by simp), ?_⟩
      rw [eqv_nil, filt_all, ← good_all]
      exact k _ (Same.trans S (Same.new hp))
  | _ =>
    have fin := k H (Same.refl H)
    simp only [isS, Bool.false_eq_true, ↓reduceIte]
    exact fin
end
end K04


namespace K04
open PySem L2 Nv

def names5 : List Str := ["put", "sync", "fall", "lose", "trim"]
def spDeed : Sp := fun vs H Q _ => ∃ (p : Addr) (z : Str) (n : Int) (N : Nat), vs = [.ref p, .str z, .int n] ∧ BoxAt H p N ∧ N ≤ 800000 ∧ z.length ≤ 4000 ∧ 0 ≤ n ∧ n ≤ (z.length : Int) ∧
  ∀ t name v d H', H' t = some (.tup [.str name, v]) → H t = none → V1 H' v d → Apart H v → name ∈ names5 → (name = "put" → z.length ≤ 2500) → BoxAt H' p (N + 40) → Ext1 p H H' → Q (.ref t) H'
theorem freeOf {p : Addr} {H H' : Hp} {N : Nat} (hb : BoxAt H' p N) (e : Ext1 p H H') {a : Addr} (h : H' a = none) : H a = none := by
  cases q : H a with
  | none => rfl
  | some o =>
    by_cases ea : a = p
    · obtain ⟨_, _, _, _, hx, _⟩ := hb
      rw [ea, hx] at h
      cases h
    · rw [e a o ea q] at h
      cases h
theorem three {k : Int} (h0 : 0 ≤ k) (h1 : k < 3) : k = ((0 : Nat) : Int) ∨ k = ((1 : Nat) : Int) ∨ k = ((2 : Nat) : Int) := by omega
theorem deed_tail {K : PySem.W.Frag} {kind : Int} {x : V} {Q : VK} {H1 : Hp} (fin : ∀ t name H', name ∈ names5 → ¬ name = "put" → H1 t = none → Same H1 H' → H' t = some (.tup [.str name, x]) → Q (.ref t) H') :
    0 + 1 + 1 ≤ sizeLine ∧ ∀ (p : Addr), H1 p = none → 0 + 1 + 1 ≤ sizeLine ∧ ∀ (p3 : Addr), upd H1 p (HO.tup [V.str (Str.ofString "fall"), x]) p3 = none →
      0 + 1 + 1 ≤ sizeLine ∧ ∀ (p4 : Addr), upd (upd H1 p (HO.tup [V.str (Str.ofString "fall"), x])) p3 (HO.tup [V.str (Str.ofString "lose"), x]) p4 = none →
        0 + 1 + 1 + 1 ≤ sizeLine ∧ ∀ (p5 : Addr), upd (upd (upd H1 p (HO.tup [V.str (Str.ofString "fall"), x])) p3 (HO.tup [V.str (Str.ofString "lose"), x])) p4 (HO.tup [V.str (Str.ofString "trim"), x]) p5 = none →
          p5 ≠ sysModules → (3 : Int) ≠ 0 ∧ rIxL K (V.ref p5) (V.int (kind.fmod 3)) (upd (upd (upd (upd H1 p (HO.tup [V.str (Str.ofString "fall"), x])) p3 (HO.tup [V.str (Str.ofString "lose"), x])) p4 (HO.tup [V.str (Str.ofString "trim"), x]))
            p5 (HO.lst [V.ref p, V.ref p3, V.ref p4])) Q := by
  refine ⟨by decide, fun p hp => ?_⟩
  obtain ⟨H2, e2, S2, f2⟩ := gen_new (.tup [V.str (Str.ofString "fall"), x]) hp
  simp only [e2]
  refine ⟨by decide, fun p3 hp3 => ?_⟩
  obtain ⟨H3, e3, S3, f3⟩ := gen_new (.tup [V.str (Str.ofString "lose"), x]) hp3
  simp only [e3]
  refine ⟨by decide, fun p4 hp4 => ?_⟩
  obtain ⟨H4, e4, S4, f4⟩ := gen_new (.tup [V.str (Str.ofString "trim"), x]) hp4
  simp only [e4]
  refine ⟨by decide, fun p5 hp5 _ => ?_⟩
  obtain ⟨H5, e5, S5, f5⟩ := gen_new (.lst [V.ref p, V.ref p3, V.ref p4]) hp5
  simp only [e5]
  refine ⟨by decide, ?_⟩
  have f := fmod_in kind (m := 3) (by decide)
  have SH : Same H1 H5 := Same.trans S2 (Same.trans S3 (Same.trans S4 S5))
  rcases three f.1 f.2 with e | e | e <;> rw [e] <;> refine r_ixL (SqL.of f5) (atI_nat rfl) ?_
  · exact fin p "fall" H5 (by decide +kernel) (by decide +kernel) hp SH (S5 _ _ (S4 _ _ (S3 _ _ f2)))
  · exact fin p3 "lose" H5 (by decide +kernel) (by decide +kernel) (S2.free hp3) SH (S5 _ _ (S4 _ _ f3))
  · exact fin p4 "trim" H5 (by decide +kernel) (by decide +kernel) (S2.free (S3.free hp4)) SH (S5 _ _ f4)
section
variable {P : Program} {w : World} {K : PySem.W.Frag} {mg : Str → Option Value} {base : Heap}
theorem ok_l_deed (T : Tx K mg) : FnG P w K mg base 3 T.d_l_deed.f T.d_l_deed.fd ["_law_box_here", "_law_text", "_law_synced"] spDeed := by
  refine okG0 T.d_l_deed.F sc_l_deed (fun vs H Q E h => ?_) (fun cdv A outer s H vs Q E hg hr h => ?_)
  · obtain ⟨p, z, n, N, rfl, _⟩ := h
    rfl
  obtain ⟨p, z, n, N, rfl, hp, hN, hz, hn0, hn1, q⟩ := h
  refine ⟨_, (pss_cons (ps_par3 (i := 3) (j := 4) (l := 5) rfl sc_l_deed.nd rfl rfl rfl (by decide) (by decide) (by decide) rfl rfl rfl (pa_cons (pe_cG (ok_l_take T) T.d_l_take.b takes0 hg (hr.mono (by decide)) T.d_l_take.m T.d_l_take.F.kp (pa_cons (pv 0) (pa_cons pe_int pa_nil))) (pa_cons (pe_cG (ok_l_take T) T.d_l_take.b takes0 hg (hr.mono (by decide)) T.d_l_take.m T.d_l_take.F.kp (pa_cons (pv 0) (pa_cons pe_int pa_nil))) (pa_cons (pe_cG (ok_l_take T) T.d_l_take.b takes0 hg (hr.mono (by decide)) T.d_l_take.m T.d_l_take.F.kp (pa_cons (pv 0) (pa_cons pe_int pa_nil))) pa_nil))) (by rfl))
    (pss_cons (ps_if (pt_cmpR op_gt (pe_callB call_len_str (by rfl) T.n_len (by decide +kernel) (pa_cons (pv 1) pa_nil)) pe_int (nomark _))
      (pss_one (ps_ret (pe_tup (pa_cons pe_str (pa_cons (pe_op op_add pe_int (pe_op op_mul pe_int (pv 4))) pa_nil)))))
      pss_nil)
    (pss_cons (ps_if (pt_cmpR op_lt (pv 3) pe_int (nomark _))
      (pss_one (ps_ret (pe_tup (pa_cons pe_str (pa_cons (pe_cG (ok_l_signs T) T.d_l_signs.b takes0 hg (hr.mono (by decide)) T.d_l_signs.m T.d_l_signs.F.kp (pa_cons (pv 0) pa_nil)) pa_nil)))))
      pss_nil)
    (pss_cons (ps_if (pt_cmpR op_eq (pv 3) pe_int (nomark _))
      (pss_one (ps_ret (pe_tup (pa_cons pe_str (pa_cons (pe_cG (ok_l_odd_signs T) T.d_l_odd_signs.b takes0 hg (hr.mono (by decide)) T.d_l_odd_signs.m T.d_l_odd_signs.F.kp (pa_cons (pv 5) (pa_cons (pe_cG (ok_l_signs T) T.d_l_signs.b takes0 hg (hr.mono (by decide)) T.d_l_signs.m T.d_l_signs.F.kp (pa_cons (pv 0) pa_nil)) pa_nil))) pa_nil)))))
      pss_nil)
    (pss_cons (ps_if (pt_cmpR op_eq (pv 3) pe_int (nomark _))
      (pss_one (ps_ret (pe_tup (pa_cons pe_str (pa_cons pe_non pa_nil)))))
      pss_nil)
    (pss_cons (ps_set (i := 6) sc_l_deed.nd rfl (Or.inl rfl) (pe_lst1 (pa_cons pe_int (pa_cons pe_int (pa_cons (pv 2) (pa_cons (pe_callB call_len_str (by rfl) T.n_len (by decide +kernel) (pa_cons (pv 1) pa_nil)) (pa_cons (pe_op op_add (pe_callB call_len_str (by rfl) T.n_len (by decide +kernel) (pa_cons (pv 1) pa_nil)) pe_int) (pa_cons (pe_callB (call_max2 rfl) (by rfl) T.n_max (by decide +kernel) (pa_cons pe_int (pa_cons (pe_op op_sub (pe_callB call_len_str (by rfl) T.n_len (by decide +kernel) (pa_cons (pv 1) pa_nil)) pe_int) pa_nil))) (pa_cons (pe_op op_sub (pe_callB call_len_str (by rfl) T.n_len (by decide +kernel) (pa_cons (pv 1) pa_nil)) (pv 2)) (pa_cons (pe_op op_add (pe_op op_sub (pe_callB call_len_str (by rfl) T.n_len (by decide +kernel) (pa_cons (pv 1) pa_nil)) (pv 2)) pe_int) pa_nil))))))))))
    (pss_cons (ps_set (i := 7) sc_l_deed.nd rfl (Or.inl rfl) (pe_ix ix_list (pe_op op_cat (pv 6) (pe_lst1 (pa_cons (pe_op op_add (pe_op op_pow pe_int pe_int) (pe_op op_mul pe_int (pv 5))) (pa_cons (pe_cG (ok_l_take T) T.d_l_take.b takes0 hg (hr.mono (by decide)) T.d_l_take.m T.d_l_take.F.kp (pa_cons (pv 0) (pa_cons (pe_op op_add (pe_callB call_len_str (by rfl) T.n_len (by decide +kernel) (pa_cons (pv 1) pa_nil)) pe_int) pa_nil))) pa_nil)))) (pv 4) (fun _ _ => rfl)))
    (pss_cons (ps_if (pt_cmpR op_gt (pv 3) pe_int (nomark _))
      (pss_one (ps_set (i := 7) sc_l_deed.nd rfl (Or.inl rfl) (pe_cG (ok_l_odd_count T) T.d_l_odd_count.b takes0 hg (hr.mono (by decide)) T.d_l_odd_count.m T.d_l_odd_count.F.kp (pa_cons (pv 5) pa_nil))))
      pss_nil)
    (pss_one (ps_ret (pe_ix ix_list (pe_lst1 (pa_cons (pe_tup (pa_cons pe_str (pa_cons (pv 7) pa_nil))) (pa_cons (pe_tup (pa_cons pe_str (pa_cons (pv 7) pa_nil))) (pa_cons (pe_tup (pa_cons pe_str (pa_cons (pv 7) pa_nil))) pa_nil)))) (pe_op op_modN (pe_callTy call_intI (by rfl) T.n_int (by decide +kernel) (pa_cons (pv 3) pa_nil)) pe_int) (fun _ _ => rfl)))))))))))), ?_⟩
  walk_at "rd"
  have sz : sizeLine = 16777216 := sizeLine_eq
  refine ⟨p, 16, N, rfl, hp, by omega, by decide, by decide, fun kind H1 k0 k1 hp1 e1 => ?_⟩
  refine ⟨p, 10, _, rfl, hp1, by omega, by decide, by decide, fun near H2 r0 r1 hp2 e2 => ?_⟩
  refine ⟨p, 12, _, rfl, hp2, by omega, by decide, by decide, fun odd H3 o0 o1 hp3 e3 => ?_⟩
  have E3 : Ext1 p H H3 := (e1.trans e2).trans e3
  have free3 : ∀ {a : Addr}, H3 a = none → H a = none := fun h => freeOf hp3 E3 h
  walk_at "rd"
  refine ⟨by omega, ?_⟩
  by_cases hb : 2500 < (z.length : Int)
  · simp only [hb, ↓reduceIte]
    refine ⟨cmul_l (by decide) (by decide), by decide, fun t ht => ?_⟩
    refine q t "trim" (.int (20 + 7 * near)) (.int (20 + 7 * near)) _ upd_same (free3 ht) (.flat (.int _ (by constructor <;> omega))) (fun a e => nomatch e) (by decide +kernel) (fun e => absurd e (by decide +kernel)) ?_ (E3.trans (Nv.Same.ext1 (Nv.Same.new ht)))
    exact (BoxAt.mono (Nv.Same.new ht) hp3).le (by omega)
  simp only [hb, ↓reduceIte]
  have hz2 : z.length ≤ 2500 := by omega
  by_cases h5 : kind < 5
  · simp only [h5, ↓reduceIte]
    refine ⟨p, _, rfl, hp3, by omega, fun y H4 ly ay hp4 e4 => ⟨by decide, fun t ht => ?_⟩⟩
    have E4 := E3.trans e4
    refine q t "put" (.str y) (.str y) _ upd_same (freeOf hp4 E4 ht) (.flat (.str _ (by omega) ay)) (fun a e => nomatch e) (by decide +kernel) (fun _ => hz2) ?_ (E4.trans (Nv.Same.ext1 (Nv.Same.new ht)))
    exact (BoxAt.mono (Nv.Same.new ht) hp4).le (by omega)
  simp only [h5, ↓reduceIte]
  refine ⟨rfl, ?_⟩
  by_cases h5 : kind = 5
  · simp only [h5, ↓reduceIte]
    refine ⟨p, _, rfl, hp3, by omega, fun y H4 ly ay hp4 e4 => ⟨odd, y, rfl, o0, o1, ly, ay, fun v d H5 hv av S5 => ⟨by decide, fun t ht => ?_⟩⟩⟩
    have E4 := E3.trans e4
    have f4 : ∀ {a : Addr}, H4 a = none → H a = none := fun h => freeOf hp4 E4 h
    refine q t "put" v d _ upd_same (f4 (S5.free ht)) (hv.mono fun a o _ h => Nv.Same.new ht a o h) (fun a e => f4 (av a e)) (by decide +kernel) (fun _ => hz2) ?_ (E4.trans ((Nv.Same.ext1 S5).trans (Nv.Same.ext1 (Nv.Same.new ht))))
    exact (BoxAt.mono (Nv.Same.new ht) (BoxAt.mono S5 hp4)).le (by omega)
  simp only [h5, ↓reduceIte]
  refine ⟨rfl, ?_⟩
  by_cases h6 : kind = 6
  · simp only [h6, ↓reduceIte]
    refine ⟨by decide, fun t ht => ?_⟩
    refine q t "sync" .non .none _ upd_same (free3 ht) (.flat .non) (fun a e => nomatch e) (by decide +kernel) (fun e => absurd e (by decide +kernel)) ?_ (E3.trans (Nv.Same.ext1 (Nv.Same.new ht)))
    exact (BoxAt.mono (Nv.Same.new ht) hp3).le (by omega)
  simp only [h6, ↓reduceIte]
  have zz : z.length ≤ sizeLine := by omega
  refine ⟨zz, zz, zz, _, _, ⟨rfl, rfl⟩, zz, zz, by decide, fun l1 hl1 _ => ⟨by unfold CPow; decide, cmul_l (by decide) (by decide), zz, ?_⟩⟩
  obtain ⟨H4, e4, S4, f4⟩ := gen_new (.lst [V.int 0, V.int 1, V.int n, V.int ↑z.length, V.int (↑z.length + 1), V.int (if (↑z.length - 1 : Int) > 0 then ↑z.length - 1 else 0), V.int (↑z.length - n), V.int (↑z.length - n + 1)]) hl1
  simp only [e4]
  refine ⟨p, _, _, rfl, BoxAt.mono S4 hp3, by omega, by omega, by omega, fun dr H5 d0 d1 hp5 e5 => ?_⟩
  refine ⟨by decide, fun l2 hl2 _ => ?_⟩
  obtain ⟨H6, e6, S6, f6⟩ := gen_new (.lst [V.int (10 ^ Int.toNat 19 + 7 * odd), V.int dr]) hl2
  simp only [e6]
  have np : l1 ≠ p := fun e => by
    obtain ⟨_, _, _, _, hx, _⟩ := hp3
    rw [e, hx] at hl1
    cases hl1
  have g1 : H6 l1 = some (.lst [V.int 0, V.int 1, V.int n, V.int ↑z.length, V.int (↑z.length + 1), V.int (if (↑z.length - 1 : Int) > 0 then ↑z.length - 1 else 0), V.int (↑z.length - n), V.int (↑z.length - n + 1)]) := S6 _ _ (e5 _ _ np f4)
  have E6 : Ext1 p H H6 := E3.trans ((Nv.Same.ext1 S4).trans (e5.trans (Nv.Same.ext1 S6)))
  refine ⟨l1, l2, _, _, rfl, rfl, g1, f6, by rw [sz]; show 8 + 2 ≤ 16777216; decide, fun l3 hl3 => ?_⟩
  obtain ⟨H7, e7, S7, f7⟩ := gen_new (.lst ([V.int 0, V.int 1, V.int n, V.int ↑z.length, V.int (↑z.length + 1), V.int (if (↑z.length - 1 : Int) > 0 then ↑z.length - 1 else 0), V.int (↑z.length - n), V.int (↑z.length - n + 1)] ++ [V.int (10 ^ Int.toNat 19 + 7 * odd), V.int dr])) hl3
  simp only [e7]
  have E7 : Ext1 p H H7 := E6.trans (Nv.Same.ext1 S7)
  have hp7 : BoxAt H7 p (N + 1 + 1 + 1 + 1) := BoxAt.mono S7 (BoxAt.mono S6 hp5)
  have pick : ∃ c : Int, (-(10 ^ 21) ≤ c ∧ c ≤ 10 ^ 21) ∧ atI ([V.int 0, V.int 1, V.int n, V.int ↑z.length, V.int (↑z.length + 1), V.int (if (↑z.length - 1 : Int) > 0 then ↑z.length - 1 else 0), V.int (↑z.length - n), V.int (↑z.length - n + 1)] ++ [V.int (10 ^ Int.toNat 19 + 7 * odd), V.int dr]) near = some (V.int c) := by
    have hh : near = ((0 : Nat) : Int) ∨ near = ((1 : Nat) : Int) ∨ near = ((2 : Nat) : Int) ∨ near = ((3 : Nat) : Int) ∨ near = ((4 : Nat) : Int) ∨ near = ((5 : Nat) : Int) ∨ near = ((6 : Nat) : Int) ∨ near = ((7 : Nat) : Int) ∨ near = ((8 : Nat) : Int) ∨ near = ((9 : Nat) : Int) := by omega
    have big : (10 : Int) ^ Int.toNat 19 = 10000000000000000000 := by decide
    rcases hh with e | e | e | e | e | e | e | e | e | e <;> subst e <;> refine ⟨_, ?_, atI_nat rfl⟩
    all_goals first
      | (constructor <;> omega)
      | (split <;> constructor <;> omega)
      | (rw [big]; constructor <;> omega)
  obtain ⟨c, hc, hat⟩ := pick
  refine r_ixL (SqL.of f7) hat ?_
  have fin : ∀ (v : V) (d : PyData) (H8 : Hp), V1 H8 v d → Apart H v → Same H7 H8 → ∀ t name H', name ∈ names5 → ¬ name = "put" → H8 t = none → Same H8 H' → H' t = some (.tup [.str name, v]) → Q (.ref t) H' := by
    intro v d H8 hv av S8 t name H' hn1 hn2 ht S9 ft
    have E8 : Ext1 p H H8 := E7.trans (Nv.Same.ext1 S8)
    have hp8 : BoxAt H8 p (N + 1 + 1 + 1 + 1) := BoxAt.mono S8 hp7
    exact q t name v d H' ft (freeOf hp8 E8 ht) (hv.mono fun a o _ h => S9 a o h) av hn1 (fun e => absurd e hn2) ((BoxAt.mono S9 hp8).le (by omega)) (E8.trans (Nv.Same.ext1 S9))
  by_cases h12 : 12 < kind
  · simp only [h12, ↓reduceIte]
    refine ⟨odd, rfl, o0, o1, fun v d H8 hv av S8 => ?_⟩
    exact deed_tail (fin v d H8 hv (fun a e => freeOf hp7 E7 (av a e)) S8)
  · simp only [h12, ↓reduceIte]
    exact deed_tail (fin _ _ H7 (.flat (.int c hc)) (fun a e => nomatch e) (Same.refl H7))
end
end K04


namespace K04
open PySem L2 Nv

/-! what a deed does -/
inductive OutK where
  | told (z : Str) (n : Int)
  | signs
  | count
def left (z : Str) (i : Int) : OutK := .told (firsts z i) ((firsts z i).length : Int)
def outc (name : Str) (d : PyData) (z : Str) (n : Int) : OutK :=
  if name = "put" then (match d with
    | .str y => if good y = true then .told (z ++ y) n else .signs
    | _ => .signs)
  else if name = "sync" then left z (z.length : Int)
  else match d with
    | .int i => if 0 ≤ i then
        (if name = "trim" then (if i ≤ (z.length : Int) then left z i else .count)
         else if name = "fall" then left z (n + i.fmod ((z.length : Int) - n + 1))
         else left z i)
      else .count
    | _ => .count
def reply (v : V) : OutK → List V
  | .told _ _ => [.str "told", .non]
  | .signs => [.str "signs", v]
  | .count => [.str "count", v]
def newZ (z : Str) : OutK → Str
  | .told y _ => y
  | _ => z
def newN (n : Int) : OutK → Int
  | .told _ k => k
  | _ => n
theorem firsts_all (z : Str) : firsts z (z.length : Int) = z := by
  unfold firsts cutS
  have h1 : HT.sIx z.length 0 none = 0 := rfl
  have h2 : HT.sIx z.length z.length (some (z.length : Int)) = z.length := by
    unfold HT.sIx
    simp
    intro h
    omega
  rw [h1, h2]
  apply Str.ext'
  show ((z.cps.toList.drop 0).take (z.length - 0)).toArray = z.cps
  rw [List.drop_zero, List.take_of_length_le (by simp [Str.length])]
def spDue : Sp := fun vs H Q _ => ∃ (q t : Addr) (name : Str) (v : V) (d : PyData) (z : Str) (n : Int), vs = [.ref q, .ref t] ∧ H q = some (.lst [.str z, .int n]) ∧ H t = some (.tup [.str name, v]) ∧ V1 H v d ∧
  name ∈ names5 ∧ z.length ≤ 10000 ∧ 0 ≤ n ∧ n ≤ (z.length : Int) ∧
  ∀ l H', H l = none → l ≠ sysModules → H' l = some (.lst (reply v (outc name d z n))) → H' q = some (.lst [.str (newZ z (outc name d z n)), .int (newN n (outc name d z n))]) → Ext1 q H H' → Q (.ref l) H'
theorem V1.strz {H : Hp} {v : V} {d : PyData} (h : V1 H v d) : ∀ z, d = .str z → v = .str z ∧ z.length ≤ 1000 ∧ Asc z := fun z e => by
  subst e
  cases h with
  | flat f =>
    cases f with
    | str _ h a => exact ⟨rfl, h, a⟩
theorem V1.intz {H : Hp} {v : V} {d : PyData} (h : V1 H v d) : ∀ i, d = .int i → v = .int i := fun z e => by
  subst e
  cases h with
  | flat f =>
    cases f with
    | int _ h => rfl
section
variable {P : Program} {w : World} {K : PySem.W.Frag} {mg : Str → Option Value} {base : Heap}
theorem ok_l_due (T : Tx K mg) : FnG P w K mg base 2 T.d_l_due.f T.d_l_due.fd ["_law_state", "_law_deed_here"] spDue := by
  refine okG0 T.d_l_due.F sc_l_due (fun vs H Q E h => ?_) (fun cdv A outer s H vs Q E hg hr h => ?_)
  · obtain ⟨q, t, name, v, d, z, n, rfl, _⟩ := h
    rfl
  obtain ⟨q, t, name, v, d, z, n, rfl, hq, ht, hv, hn, hz, n0, n1, k⟩ := h
  refine ⟨_, (pss_cons (ps_asg (pv 1) (pg_tup rfl (pgs_cons (pg_name (i := 2) sc_l_due.nd rfl (Or.inl rfl)) (pgs_cons (pg_name (i := 3) sc_l_due.nd rfl (Or.inl rfl)) pgs_nil))))
    (pss_cons (ps_par (i := 4) (j := 5) rfl sc_l_due.nd rfl rfl (by decide) rfl rfl (pa_cons (pe_ix ix_list (pv 0) pe_int (fun _ _ => rfl)) (pa_cons (pe_ix ix_list (pv 0) pe_int (fun _ _ => rfl)) pa_nil)) (by rfl))
    (pss_cons (ps_if (pt_cmpR op_eq (pv 2) pe_str (nomark _))
      (pss_cons (ps_if (pt_not (pt_val (pe_cG (ok_l_is_signs T) T.d_l_is_signs.b takes0 hg (hr.mono (by decide)) T.d_l_is_signs.m T.d_l_is_signs.F.kp (pa_cons (pv 3) pa_nil))))
        (pss_one (ps_ret (pe_lst1 (pa_cons pe_str (pa_cons (pv 3) pa_nil)))))
        pss_nil)
      (pss_cons (ps_asg (pe_op op_add_str (pv 4) (pv 3)) (pg_sub (pv 0) pe_int set_list))
      (pss_one (ps_ret (pe_lst1 (pa_cons pe_str (pa_cons pe_non pa_nil)))))))
      pss_nil)
    (pss_cons (ps_if (pt_cmpR op_eq (pv 2) pe_str (nomark _))
      (pss_one (ps_ret (pe_cG (ok_l_left T) T.d_l_left.b takes0 hg (hr.mono (by decide)) T.d_l_left.m T.d_l_left.F.kp (pa_cons (pv 0) (pa_cons (pe_callB call_len_str (by rfl) T.n_len (by decide +kernel) (pa_cons (pv 4) pa_nil)) pa_nil)))))
      pss_nil)
    (pss_cons (ps_if (PW.pt (pw_or (pt_not (pt_val (pe_cG (ok_l_is_count T) T.d_l_is_count.b takes0 hg (hr.mono (by decide)) T.d_l_is_count.m T.d_l_is_count.F.kp (pa_cons (pv 3) pa_nil)))) (pw_or1 (PW.pt (pw_and (pt_cmpR op_eq (pv 2) pe_str (nomark _)) (pw_and1 (pt_cmpR op_gt (pv 3) (pe_callB call_len_str (by rfl) T.n_len (by decide +kernel) (pa_cons (pv 4) pa_nil)) (nomark _))))))))
      (pss_one (ps_ret (pe_lst1 (pa_cons pe_str (pa_cons (pv 3) pa_nil)))))
      pss_nil)
    (pss_cons (ps_if (pt_cmpR op_eq (pv 2) pe_str (nomark _))
      (pss_one (ps_ret (pe_cG (ok_l_left T) T.d_l_left.b takes0 hg (hr.mono (by decide)) T.d_l_left.m T.d_l_left.F.kp (pa_cons (pv 0) (pa_cons (pe_op op_add (pv 5) (pe_op op_modN (pe_callTy call_intI (by rfl) T.n_int (by decide +kernel) (pa_cons (pv 3) pa_nil)) (pe_op op_add (pe_op op_sub (pe_callB call_len_str (by rfl) T.n_len (by decide +kernel) (pa_cons (pv 4) pa_nil)) (pv 5)) pe_int))) pa_nil)))))
      pss_nil)
    (pss_one (ps_ret (pe_cG (ok_l_left T) T.d_l_left.b takes0 hg (hr.mono (by decide)) T.d_l_left.m T.d_l_left.F.kp (pa_cons (pv 0) (pa_cons (pv 3) pa_nil))))))))))), ?_⟩
  walk_at "rd"
  have sz : sizeLine = 16777216 := sizeLine_eq
  refine r_unp (SqT.of ht) rfl ?_
  walk_at "rd"
  refine r_ixL (SqL.of hq) (at0 rfl) ?_
  walk_at "rd"
  refine r_ixL (SqL.of hq) (at1 rfl) ?_
  walk_at "rd"
  refine ⟨rfl, ?_⟩
  have zz : z.length ≤ sizeLine := by omega
  have nd {a : Addr} {b : HO} {H1 : Hp} (S : Same H H1) (h : H1 a = none) : H a = none := S.free h
  -- a refusal
  have ref : ∀ (H1 : Hp) (tag : Str) (o : OutK), Same H H1 → outc name d z n = o → reply v o = [.str tag, v] → newZ z o = z → newN n o = n →
      0 + 1 + 1 ≤ sizeLine ∧ ∀ (p : Addr), H1 p = none → p ≠ sysModules → Q (V.ref p) (upd H1 p (HO.lst [V.str tag, v])) := by
    intro H1 tag o S e1 e2 e3 e4
    refine ⟨by decide, fun p hp np => ?_⟩
    refine k p _ (S.free hp) np ?_ ?_ ?_
    · rw [upd_same, e1, e2]
    · rw [upd_ne (ne_of_none (S _ _ hq) hp), S _ _ hq, e1, e3, e4]
    · exact (Nv.Same.ext1 S).trans (Nv.Same.ext1 (Nv.Same.new hp))
  -- signs cut off
  have cut : ∀ (H1 : Hp) (i : Int) E', Same H H1 → outc name d z n = left z i → spLeft [V.ref q, V.int i] H1 Q E' := by
    intro H1 i E' S e
    refine ⟨q, i, z, n, rfl, S _ _ hq, zz, fun l H2 hl nl h1 h2 h3 => ?_⟩
    refine k l H2 (S.free hl) nl ?_ ?_ ((Nv.Same.ext1 S).trans h3)
    · rw [h1, e]
      rfl
    · rw [h2, e]
      rfl
  by_cases hp : name = "put"
  · simp only [hp, ↓reduceIte]
    refine ⟨v, d, rfl, hv.dv, fun y e => (by obtain ⟨_, a, b⟩ := hv.strz y e; exact ⟨by omega, b⟩), fun H1 S1 => ⟨_, rfl, ?_⟩⟩
    cases hs : sigOk d with
    | false =>
      simp only [↓reduceIte]
      refine ref H1 "signs" .signs S1 ?_ rfl rfl rfl
      unfold outc
      rw [if_pos hp]
      cases d with
      | str y =>
        have : good y = false := hs
        simp [this]
      | _ => rfl
    | true =>
      simp only [Bool.true_eq_false, ↓reduceIte]
      cases d with
      | str y =>
        have hg : good y = true := hs
        obtain ⟨rfl, ly, _⟩ := hv.strz y rfl
        walk_at "rd"
        refine ⟨by omega, r_setL (S1 _ _ hq) (setIx (j := 0) (by show 0 < 2; decide)) ?_⟩
        refine ⟨by decide, fun p hp2 np => ?_⟩
        have ho : outc name (.str y) z n = .told (z ++ y) n := by
          unfold outc
          rw [if_pos hp]
          simp [hg]
        have npq : p ≠ q := fun e => by
          rw [e, upd_same] at hp2
          cases hp2
        have hp3 : H1 p = none := by
          rw [upd_ne npq] at hp2
          exact hp2
        refine k p _ (S1.free hp3) np ?_ ?_ ?_
        · rw [upd_same, ho]
          rfl
        · rw [upd_ne (Ne.symm npq), upd_same, ho]
          rfl
        · intro a o na ha
          rw [upd_ne (ne_of_none (S1 _ _ ha) hp3), upd_ne na]
          exact S1 _ _ ha
      | _ => cases hs
  simp only [hp, ↓reduceIte]
  refine ⟨rfl, ?_⟩
  by_cases hy : name = "sync"
  · simp only [hy, ↓reduceIte]
    refine ⟨zz, cut H _ _ (Same.refl H) ?_⟩
    unfold outc
    rw [if_neg hp, if_pos hy]
  simp only [hy, ↓reduceIte]
  refine ⟨v, d, rfl, hv.dv, fun H1 S1 => ⟨_, rfl, ?_⟩⟩
  cases hs : cntOk d with
  | false =>
    simp only [↓reduceIte]
    refine ref H1 "count" .count S1 ?_ rfl rfl rfl
    unfold outc
    rw [if_neg hp, if_neg hy]
    cases d with
    | int i =>
      have : ¬ 0 ≤ i := by simpa [cntOk] using hs
      simp [this]
    | _ => rfl
  | true =>
    simp only [Bool.true_eq_false, ↓reduceIte]
    obtain ⟨i, rfl, i0⟩ := cnt_int hs
    obtain rfl := hv.intz i rfl
    refine ⟨rfl, ?_⟩
    have ho : outc name (.int i) z n = (if name = "trim" then (if i ≤ (z.length : Int) then left z i else .count) else if name = "fall" then left z (n + i.fmod ((z.length : Int) - n + 1)) else left z i) := by
      unfold outc
      rw [if_neg hp, if_neg hy]
      simp only [i0, ↓reduceIte]
    by_cases ht1 : name = "trim"
    · simp only [ht1, ↓reduceIte]
      refine ⟨zz, ?_⟩
      walk_at "rd"
      have nf : ¬ (Str.ofString "trim" = Str.ofString "fall") := by decide +kernel
      by_cases hl : (z.length : Int) < i
      · simp only [hl, ↓reduceIte]
        refine ref H1 "count" .count S1 ?_ rfl rfl rfl
        rw [ho, if_pos ht1, if_neg (by omega)]
      · simp only [hl, nf, ↓reduceIte]
        refine ⟨rfl, cut H1 _ _ S1 ?_⟩
        rw [ho, if_pos ht1, if_pos (by omega)]
    · simp only [ht1, ↓reduceIte]
      refine ⟨rfl, ?_⟩
      by_cases hf : name = "fall"
      · simp only [hf, ↓reduceIte]
        refine ⟨i, rfl, zz, by omega, cut H1 _ _ S1 ?_⟩
        rw [ho, if_neg ht1, if_pos hf]
      · simp only [hf, ↓reduceIte]
        refine cut H1 _ _ S1 ?_
        rw [ho, if_neg ht1, if_neg hf]
end
end K04


namespace K04
open PySem L2 Nv

def spDid (C : Addr) : Sp := fun vs H Q _ => ∃ (p t : Addr) (turn : Int) (name : Str) (v : V) (d : PyData) (z : Str) (n : Int), vs = [.ref p, .ref t, .int turn] ∧ DiskAt C H p z n ∧ H t = some (.tup [.str name, v]) ∧ V1 H v d ∧
  name ∈ names5 ∧ z.length ≤ 10000 ∧ 0 ≤ n ∧ n ≤ (z.length : Int) ∧
  ∀ l H', H l = none → l ≠ sysModules → H' l = some (.lst (reply v (outc name d z n))) → DiskAt C H' p (newZ z (outc name d z n)) (newN n (outc name d z n)) → Ext1 p H H' → Q (.ref l) H'
section
variable {P : Program} {w : World} {K : PySem.W.Frag} {mg : Str → Option Value} {base : Heap}
local macro_rules | `(tactic| walk_at "es") => `(tactic| (
  refine ⟨true, (by assumption), fun _ a ha => ?_, fun h => (by cases h)⟩
  walk_at "rd"
  refine r_isX (by assumption) (by assumption) (by assumption) ?_
  walk_at "rd"
  refine r_xf (by assumption) ?_
  assumption))
local macro_rules | `(tactic| walk_at "ec") => `(tactic| (
  refine ⟨false, (by assumption), fun h => (by cases h), fun _ => ⟨true, (by assumption), fun _ a ha => ?_, fun h => (by cases h)⟩⟩
  walk_at "rd"
  refine r_isX (by assumption) (by assumption) (by assumption) ?_
  walk_at "rd"
  refine r_xf (by assumption) ?_
  assumption))
theorem ok_l_did (T : Tx K mg) : FnG P w K mg base 5 T.d_l_did.f T.d_l_did.fd ["_law_disk", "_law_deed_here", "_law_turn"] (spDid T.C_Disk) := by
  refine okG0 T.d_l_did.F sc_l_did (fun vs H Q E h => ?_) (fun cdv A outer s H vs Q E hg hr h => ?_)
  · obtain ⟨p, t, turn, name, v, d, z, n, rfl, _⟩ := h
    rfl
  obtain ⟨p, t, turn, name, v, d, z, n, rfl, hp, ht, hv, hn, hz, n0, n1, k⟩ := h
  refine ⟨_, (pss_cons (ps_asg (pv 1) (pg_tup rfl (pgs_cons (pg_name (i := 3) sc_l_did.nd rfl (Or.inl rfl)) (pgs_cons (pg_name (i := 4) sc_l_did.nd rfl (Or.inl rfl)) pgs_nil))))
    (pss_one (ps_try_asN rfl rfl sc_l_did.nd takes0
      (fun W pn xe tk _ => (pss_cons (ps_if (pt_cmpR op_eq (pv 3) pe_str (nomark _))
          (pss_one (ps_ret (pe_lst1 (pa_cons pe_str (pa_cons (pe_ifExp (pt_cmpR op_eq (pv 2) pe_int (nomark _)) (pe_mG (pv 0) T.cl_Disk T.d_Disk_put.me (ok_Disk_put T) T.d_Disk_put.b tk hg (hr.mono (by decide)) (pa_cons (pv 4) pa_nil)) (pe_mGk (pv 0) T.cl_Disk T.d_Disk_put.me (ok_Disk_put T) T.d_Disk_put.kb rfl tk hg (hr.mono (by decide)) (pk_cons (pv 4) pk_nil))) pa_nil)))))
          pss_nil)
        (pss_cons (ps_if (pt_cmpR op_eq (pv 3) pe_str (nomark _))
          (pss_one (ps_ret (pe_lst1 (pa_cons pe_str (pa_cons (pe_mG0 (pv 0) T.cl_Disk T.d_Disk_sync.me (ok_Disk_sync T) T.d_Disk_sync.b tk hg (hr.mono (by decide))) pa_nil)))))
          pss_nil)
        (pss_cons (ps_if (pt_cmpR op_eq (pv 3) pe_str (nomark _))
          (pss_one (ps_ret (pe_lst1 (pa_cons pe_str (pa_cons (pe_ifExp (pt_cmpR op_eq (pv 2) pe_int (nomark _)) (pe_mG (pv 0) T.cl_Disk T.d_Disk_trim.me (ok_Disk_trim T) T.d_Disk_trim.b tk hg (hr.mono (by decide)) (pa_cons (pv 4) pa_nil)) (pe_mGk (pv 0) T.cl_Disk T.d_Disk_trim.me (ok_Disk_trim T) T.d_Disk_trim.kb rfl tk hg (hr.mono (by decide)) (pk_cons (pv 4) pk_nil))) pa_nil)))))
          pss_nil)
        (pss_cons (ps_if (pt_cmpR op_eq (pv 3) pe_str (nomark _))
          (pss_one (ps_ret (pe_lst1 (pa_cons pe_str (pa_cons (pe_ifExp (pt_cmpR op_eq (pv 2) pe_int (nomark _)) (pe_mG (pv 0) T.cl_Disk T.d_Disk_fall.me (ok_Disk_fall T) T.d_Disk_fall.b tk hg (hr.mono (by decide)) (pa_cons (pv 4) pa_nil)) (pe_mGk (pv 0) T.cl_Disk T.d_Disk_fall.me (ok_Disk_fall T) T.d_Disk_fall.kb rfl tk hg (hr.mono (by decide)) (pk_cons (pv 4) pk_nil))) pa_nil)))))
          pss_nil)
        (pss_one (ps_ret (pe_lst1 (pa_cons pe_str (pa_cons (pe_ifExp (pt_cmpR op_eq (pv 2) pe_int (nomark _)) (pe_mG (pv 0) T.cl_Disk T.d_Disk_lose.me (ok_Disk_lose T) T.d_Disk_lose.b tk hg (hr.mono (by decide)) (pa_cons (pv 4) pa_nil)) (pe_mGk (pv 0) T.cl_Disk T.d_Disk_lose.me (ok_Disk_lose T) T.d_Disk_lose.kb rfl tk hg (hr.mono (by decide)) (pk_cons (pv 4) pk_nil))) pa_nil))))))))))
      (HdsAs.cons (i := 5) rfl rfl ⟨rfl, by decide, .inl T.m_InvalidSigns⟩ (fun a oe cls d pn hz hf => (pss_one (ps_ret (pe_ifExp (pt_val (pe_callB (call_isX hz hf) (by rfl) T.n_isinstance (by decide +kernel) (pa_cons (pv 5) (pa_cons (pe_glob (v := .ref T.C_UnsaidError) rfl T.m_UnsaidError rfl) pa_nil)))) (pe_lst1 (pa_cons pe_str (pa_cons (pe_xf T.e_InvalidSigns.xf T.e_InvalidSigns.noF hz hf (pv 5)) pa_nil))) (pe_lst1 (pa_cons pe_str (pa_cons pe_non pa_nil)))))))
      (HdsAs.cons (i := 5) rfl rfl ⟨rfl, by decide, .inl T.m_InvalidCount⟩ (fun a oe cls d pn hz hf => (pss_one (ps_ret (pe_ifExp (pt_val (pe_callB (call_isX hz hf) (by rfl) T.n_isinstance (by decide +kernel) (pa_cons (pv 5) (pa_cons (pe_glob (v := .ref T.C_UnsaidError) rfl T.m_UnsaidError rfl) pa_nil)))) (pe_lst1 (pa_cons pe_str (pa_cons (pe_xf T.e_InvalidCount.xf T.e_InvalidCount.noF hz hf (pv 5)) pa_nil))) (pe_lst1 (pa_cons pe_str (pa_cons pe_non pa_nil)))))))
      HdsAs.nil))))), ?_⟩
  walk_at "rd"
  have sz : sizeLine = 16777216 := sizeLine_eq
  refine r_unp (SqT.of ht) rfl ?_
  walk_at "rd"
  have fr : ∀ (H1 : Hp) (l : Addr) (z' : Str) (n' : Int), DiskAt T.C_Disk H1 p z' n' → Ext1 p H H1 → H1 l = none → H l = none := by
    intro H1 l z' n' h1 e1 hl
    cases e : H l with
    | none => rfl
    | some o =>
      have nl : l ≠ p := fun q => by
        obtain ⟨dx, h⟩ := h1
        rw [q, h] at hl
        cases hl
      rw [e1 l o nl e] at hl
      cases hl
  have told : ∀ (z' : Str) (n' : Int), outc name d z n = .told z' n' → ∀ H1 : Hp, DiskAt T.C_Disk H1 p z' n' → Ext1 p H H1 →
      0 + 1 + 1 ≤ sizeLine ∧ ∀ l, H1 l = none → l ≠ sysModules → Q (.ref l) (upd H1 l (.lst [.str "told", .non])) := by
    intro z' n' eo H1 h1 e1
    refine ⟨by decide, fun l hl nl => ?_⟩
    refine k l _ (fr H1 l z' n' h1 e1 hl) nl ?_ ?_ (e1.trans (Nv.Same.ext1 (Nv.Same.new hl)))
    · rw [upd_same, eo]
      rfl
    · rw [eo]
      exact h1.mono (Nv.Same.new hl)
  have no : ∀ (tag : Str) (o : OutK), outc name d z n = o → reply v o = [.str tag, v] → newZ z o = z → newN n o = n → ∀ (H1 : Hp), Same H H1 →
      0 + 1 + 1 ≤ sizeLine ∧ ∀ l, H1 l = none → l ≠ sysModules → Q (.ref l) (upd H1 l (.lst [.str tag, v])) := by
    intro tag o e1 e2 e3 e4 H1 S
    refine ⟨by decide, fun l hl nl => ?_⟩
    refine k l _ (S.free hl) nl ?_ ?_ ((Nv.Same.ext1 S).trans (Nv.Same.ext1 (Nv.Same.new hl)))
    · rw [upd_same, e1, e2]
    · rw [e1, e3, e4]
      exact (hp.mono S).mono (Nv.Same.new hl)
  have put : ∀ (hq : name = "put") (Q1 : VK) (E1 : XK), (∀ H1 : Hp, (0 + 1 + 1 ≤ sizeLine ∧ ∀ l, H1 l = none → l ≠ sysModules → Q (.ref l) (upd H1 l (.lst [.str "told", .non]))) → Q1 .non H1) →
      (∀ dd H', H' dd = some (.xd [("given", v)]) → (0 + 1 + 1 ≤ sizeLine ∧ ∀ l, H' l = none → l ≠ sysModules → Q (.ref l) (upd H' l (.lst [.str "signs", v]))) → E1 (.ref T.C_InvalidSigns) (some dd) H') →
      spPut T.C_Disk T.C_InvalidSigns [.ref p, v] H Q1 E1 := by
    intro hq Q1 E1 kq ke
    refine ⟨p, v, z, n, d, rfl, hp, hv.dv, fun y e g => ?_, fun hs dd H' hd S h' => ?_⟩
    · obtain ⟨_, ly, _⟩ := hv.strz y e
      refine ⟨by omega, fun H' h' e' => kq H' (told (z ++ y) n ?_ H' h' e')⟩
      unfold outc
      rw [if_pos hq]
      subst e
      simp [g]
    · refine ke dd H' h' (no "signs" .signs ?_ rfl rfl rfl H' S)
      unfold outc
      rw [if_pos hq]
      cases d with
      | str y =>
        have : good y = false := hs
        simp [this]
      | _ => rfl
  have cut : ∀ (fits : Str → Int → Bool) (f : Str → Int → Int → Int) (Q1 : VK) (E1 : XK),
      (∀ i, d = .int i → 0 ≤ i → fits z i = true → outc name d z n = left z (f z n i)) → ((∀ i, d = .int i → 0 ≤ i → fits z i = false) → outc name d z n = .count) →
      (∀ H1 : Hp, (0 + 1 + 1 ≤ sizeLine ∧ ∀ l, H1 l = none → l ≠ sysModules → Q (.ref l) (upd H1 l (.lst [.str "told", .non]))) → Q1 .non H1) →
      (∀ dd H', H' dd = some (.xd [("given", v)]) → (0 + 1 + 1 ≤ sizeLine ∧ ∀ l, H' l = none → l ≠ sysModules → Q (.ref l) (upd H' l (.lst [.str "count", v]))) → E1 (.ref T.C_InvalidCount) (some dd) H') →
      spCut T.C_Disk T.C_InvalidCount fits f [.ref p, v] H Q1 E1 := by
    intro fits f Q1 E1 e1 e2 kq ke
    refine ⟨p, v, z, n, d, rfl, hp, hv.dv, by omega, n0, n1, fun i e h0 hf H' h' e' => ?_, fun hc dd H' hd S h' => ?_⟩
    · exact kq H' (told _ _ (e1 i e h0 hf) H' h' e')
    · exact ke dd H' h' (no "count" .count (e2 hc) rfl rfl rfl H' S)
  have x1 := T.x_ss
  have x2 := T.x_cs
  have x3 := T.x_cc
  have x4 := T.e_InvalidSigns.nv
  have x5 := T.e_InvalidCount.nv
  have x6 := T.i_s
  have x7 := T.i_c
  refine ⟨rfl, ?_⟩
  by_cases h1 : name = "put"
  · rw [if_pos h1]
    refine ⟨rfl, ?_⟩
    have go := put h1
    split
    · refine m_disk hp (by decide +kernel) (by decide +kernel) (go _ _ (fun H1 h => h) fun dd H' h' fin => ?_)
      walk_at "es"
    · refine m_disk hp (by decide +kernel) (by decide +kernel) (go _ _ (fun H1 h => h) fun dd H' h' fin => ?_)
      walk_at "es"
  rw [if_neg h1]
  refine ⟨rfl, ?_⟩
  by_cases h2 : name = "sync"
  · rw [if_pos h2]
    refine m_disk hp (by decide +kernel) (by decide +kernel) ⟨p, z, n, rfl, hp, by omega, fun H' h' e' => told z (z.length : Int) ?_ H' h' e'⟩
    unfold outc
    rw [if_neg h1, if_pos h2, left, firsts_all]
  rw [if_neg h2]
  refine ⟨rfl, ?_⟩
  by_cases h3 : name = "trim"
  · rw [if_pos h3]
    refine ⟨rfl, ?_⟩
    have go := fun Q1 E1 => cut (fun z i => decide (i ≤ (z.length : Int))) (fun _ _ i => i) Q1 E1 (by
      intro i e h0 hf
      subst e
      simp only [decide_eq_true_eq] at hf
      unfold outc
      rw [if_neg h1, if_neg h2]
      simp only [h0, h3, hf, ↓reduceIte]) (by
      intro hc
      unfold outc
      rw [if_neg h1, if_neg h2]
      cases d with
      | int i =>
        by_cases h0 : 0 ≤ i
        · have := hc i rfl h0
          simp only [decide_eq_false_iff_not] at this
          simp only [h0, h3, this, ↓reduceIte]
        · simp only [h0, ↓reduceIte]
      | _ => rfl)
    split
    · refine m_disk hp (by decide +kernel) (by decide +kernel) (go _ _ (fun H1 h => h) fun dd H' h' fin => ?_)
      walk_at "ec"
    · refine m_disk hp (by decide +kernel) (by decide +kernel) (go _ _ (fun H1 h => h) fun dd H' h' fin => ?_)
      walk_at "ec"
  rw [if_neg h3]
  refine ⟨rfl, ?_⟩
  by_cases h4 : name = "fall"
  · rw [if_pos h4]
    refine ⟨rfl, ?_⟩
    have go := fun Q1 E1 => cut (fun _ _ => true) (fun z n i => n + i.fmod ((z.length : Int) - n + 1)) Q1 E1 (by
      intro i e h0 hf
      subst e
      unfold outc
      rw [if_neg h1, if_neg h2]
      simp only [h0, ↓reduceIte]
      rw [if_neg h3, if_pos h4]) (by
      intro hc
      unfold outc
      rw [if_neg h1, if_neg h2]
      cases d with
      | int i =>
        by_cases h0 : 0 ≤ i
        · exact absurd (hc i rfl h0) (by decide)
        · simp only [h0, ↓reduceIte]
      | _ => rfl)
    split
    · refine m_disk hp (by decide +kernel) (by decide +kernel) (go _ _ (fun H1 h => h) fun dd H' h' fin => ?_)
      walk_at "ec"
    · refine m_disk hp (by decide +kernel) (by decide +kernel) (go _ _ (fun H1 h => h) fun dd H' h' fin => ?_)
      walk_at "ec"
  rw [if_neg h4]
  refine ⟨rfl, ?_⟩
  have go := fun Q1 E1 => cut (fun _ _ => true) (fun _ _ i => i) Q1 E1 (by
      intro i e h0 hf
      subst e
      unfold outc
      rw [if_neg h1, if_neg h2]
      simp only [h0, ↓reduceIte]
      rw [if_neg h3, if_neg h4]) (by
      intro hc
      unfold outc
      rw [if_neg h1, if_neg h2]
      cases d with
      | int i =>
        by_cases h0 : 0 ≤ i
        · exact absurd (hc i rfl h0) (by decide)
        · simp only [h0, ↓reduceIte]
      | _ => rfl)
  split
  · refine m_disk hp (by decide +kernel) (by decide +kernel) (go _ _ (fun H1 h => h) fun dd H' h' fin => ?_)
    walk_at "ec"
  · refine m_disk hp (by decide +kernel) (by decide +kernel) (go _ _ (fun H1 h => h) fun dd H' h' fin => ?_)
    walk_at "ec"
end
end K04


namespace K04
open PySem L2 Nv

/-- a file of an own count -/
structure GoodF (B : Nat) (z : Str) (n : Int) : Prop where
  l : z.length ≤ B
  a : Asc z
  n0 : 0 ≤ n
  n1 : n ≤ (z.length : Int)
/-- three disks and three files -/
structure Three (C : Addr) (H : Hp) (a b : Addr) (ps qs : Nat → Addr) (zs : Nat → Str) (ns : Nat → Int) (B : Nat) : Prop where
  ha : H a = some (.lst [.ref (ps 0), .ref (ps 1), .ref (ps 2)])
  hb : H b = some (.lst [.ref (qs 0), .ref (qs 1), .ref (qs 2)])
  hp : ∀ i, i < 3 → DiskAt C H (ps i) (zs i) (ns i)
  hq : ∀ i, i < 3 → H (qs i) = some (.lst [.str (zs i), .int (ns i)])
  sq : ∀ i, i < 3 → qs i ≠ sysModules
  np : ∀ i j, i < 3 → j < 3 → i ≠ j → ps i ≠ ps j
  nq : ∀ i j, i < 3 → j < 3 → i ≠ j → qs i ≠ qs j
  ok : ∀ i, i < 3 → GoodF B (zs i) (ns i)
theorem Three.mono {C : Addr} {H H' : Hp} {a b : Addr} {ps qs : Nat → Addr} {zs : Nat → Str} {ns : Nat → Int} {B : Nat} (e : Same H H') (h : Three C H a b ps qs zs ns B) : Three C H' a b ps qs zs ns B :=
  ⟨e _ _ h.ha, e _ _ h.hb, fun i hi => (h.hp i hi).mono e, fun i hi => e _ _ (h.hq i hi), h.sq, h.np, h.nq, h.ok⟩
theorem at_three {α : Type} {f : Nat → α} {i : Nat} (h : i < 3) : atI [f 0, f 1, f 2] (i : Int) = some (f i) := by
  refine atI_nat ?_
  rcases i with _ | _ | _ | i
  · rfl
  · rfl
  · rfl
  · omega
def spIs (C : Addr) : Sp := fun vs H Q _ => ∃ a b ps qs zs ns B, vs = [.ref a, .ref b] ∧ Three C H a b ps qs zs ns B ∧ B ≤ 10000 ∧ ∀ H', Same H H' → Q (.bl true) H'
theorem file_shw {z : Str} {n : Int} {B : Nat} (g : GoodF B z n) (hB : B ≤ 10000) : Shw 10100 1 (.list [.str z, .int n]) := by
  have h := Shw.list (Shws.cons (Shw.str (D := 0) g.a) (Shws.cons (Shw.int (D := 0) (i := n) ⟨by have := g.n0; omega, by have := g.n1; have := g.l; omega⟩) Shws.nil (W1 := 71) (W2 := 0)))
  exact h.le (by have := g.l; omega) (Nat.le_refl _)
theorem file_dv {H : Hp} {q : Addr} {z : Str} {n : Int} (h : H q = some (.lst [.str z, .int n])) (s : q ≠ sysModules) : DV H (.ref q) (.list [.str z, .int n]) :=
  .lst h s (.cons (.str z) (.cons (.int n) .nil))
theorem file_eqv {z : Str} {n : Int} : PyData.eqv (.list [.str z, .int n]) (.list [.str z, .int n]) = true := by
  simp [PyData.eqv, PyData.eqvAll]
theorem file_shaped {z : Str} {n : Int} (a : Asc z) : SeqAt.shaped (.list [.str z, .int n]) = true := by
  have h : z.cps.all (fun c => decide (c < 0x110000)) = true := by
    rw [← Array.all_toList]
    simp only [List.all_eq_true, decide_eq_true_eq]
    exact fun c hc => Nat.lt_of_lt_of_le (a c hc) (by decide)
  unfold SeqAt.shaped
  simp only [PyData.canLay0, PyData.canLayAll0, PyData.depth, PyData.depthAll, PyData.strOk, h]
  rfl
section
variable {P : Program} {w : World} {K : PySem.W.Frag} {mg : Str → Option Value} {base : Heap}
theorem ok_l_is (T : Tx K mg) : FnG P w K mg base 3 T.d_l_is.f T.d_l_is.fd ["_law_disks", "_law_states"] (spIs T.C_Disk) := by
  refine okG0 T.d_l_is.F sc_l_is (fun vs H Q E h => ?_) (fun cdv A outer s H vs Q E hg hr h => ?_)
  · obtain ⟨a, b, ps, qs, zs, ns, B, rfl, _⟩ := h
    rfl
  obtain ⟨a, b, ps, qs, zs, ns, B, rfl, ht, hB, k⟩ := h
  have hr1 : Room 2 (A.deeper (PyProof.Rows.envOfC "_law_is" (defScope s_l_is) s.heap.objs.size T.d_l_is.f cdv)) := hr.mono (by decide)
  refine ⟨_, (pss_cons (ps_for PassesOwn.never rfl (pi_range1 (by rfl) T.n_range (pa_cons pe_int pa_nil)) (pg_name (i := 2) sc_l_is.nd rfl (Or.inl rfl))
      (pss_cons (ps_set (i := 3) sc_l_is.nd rfl (Or.inl rfl) (pe_lst1 (pa_cons (pe_prop (pe_ix ix_list (pv 0) (pv 2) (fun _ _ => rfl)) T.cl_Disk T.p_text.po (okp_text T) hr1 T.p_text.bi .nil pass0 rfl) (pa_cons (pe_prop (pe_ix ix_list (pv 0) (pv 2) (fun _ _ => rfl)) T.cl_Disk T.p_synced.po (okp_synced T) hr1 T.p_synced.bi .nil pass0 rfl) pa_nil))))
      (pss_one (ps_if (PW.pt (pw_or (pt_cmpR (op_neD hr.units) (pv 3) (pe_ix ix_list (pv 1) (pv 2) (fun _ _ => rfl)) (nomark _)) (pw_or1 (pt_cmpR op_ne (pe_callB (call_repr hg hr.units) (by rfl) T.n_repr (by decide +kernel) (pa_cons (pv 3) pa_nil)) (pe_callB (call_repr hg hr.units) (by rfl) T.n_repr (by decide +kernel) (pa_cons (pe_ix ix_list (pv 1) (pv 2) (fun _ _ => rfl)) pa_nil)) (nomark _)))))
        (pss_one (ps_ret pe_bl))
        pss_nil))))
    (pss_one (ps_ret pe_bl))), ?_⟩
  walk_at "rd"
  refine ⟨3, rfl, by decide, by decide, ?_⟩
  refine for_range (fun i σ H' => Same H H' ∧ ∃ x y, σ = [some (.ref a), some (.ref b), x, y]) ⟨Same.refl H, _, _, rfl⟩ ?_ ?_
  · rintro i σ H1 hi ⟨S, x, y, rfl⟩
    have h1 := ht.mono S
    have hi3 : i < 3 := hi
    walk_at "rd"
    refine r_ixL (SqL.of h1.ha) (by rw [Int.zero_add]; exact at_three (f := fun i => V.ref (ps i)) hi3) ?_
    obtain ⟨dx, hd⟩ := h1.hp i hi3
    refine r_prp hd ⟨_, zs i, ns i, rfl, h1.hp i hi3, ?_⟩
    refine r_ixL (SqL.of h1.ha) (by rw [Int.zero_add]; exact at_three (f := fun i => V.ref (ps i)) hi3) ?_
    refine r_prp hd ⟨_, zs i, ns i, rfl, h1.hp i hi3, ?_⟩
    refine ⟨by decide, fun p hp np => ?_⟩
    obtain ⟨H2, e2, S2, f2⟩ := gen_new (.lst [V.str (zs i), V.int (ns i)]) hp
    simp only [e2]
    have h2 := h1.mono S2
    have g := h2.ok i hi3
    have fq := h2.hq i hi3
    refine r_ixL (SqL.of h2.hb) (by rw [Int.zero_add]; exact at_three (f := fun i => V.ref (qs i)) hi3) ?_
    refine ⟨_, _, .lst (SqL.of f2) (.cons (.str _) (.cons (.int _) .nil)), .lst (SqL.of fq) (.cons (.str _) (.cons (.int _) .nil)), file_shaped g.a, file_shaped g.a, ?_⟩
    rw [file_eqv]
    refine ⟨_, rfl, ?_⟩
    simp only [Bool.not_true, Bool.false_eq_true, ↓reduceIte]
    have sw := file_shw g hB
    refine r_repr (file_dv f2 np) sw (by decide) (by decide) ?_
    refine r_ixL (SqL.of h2.hb) (by rw [Int.zero_add]; exact at_three (f := fun i => V.ref (qs i)) hi3) ?_
    refine r_repr (file_dv fq (h2.sq i hi3)) sw (by decide) (by decide) ?_
    refine ⟨by simp [scal], ?_⟩
    simp only [decide_true, Bool.true_eq_false, ↓reduceIte]
    exact ⟨S.trans S2, _, rfl⟩
  · rintro σ H1 ⟨S, x, y, rfl⟩
    walk_at "rd"
    exact k _ S
end
end K04


namespace K04
open PySem L2 Nv

def setAt {α : Type} (f : Nat → α) (i : Nat) (v : α) : Nat → α := fun j => if j = i then v else f j
/-- v stands apart from the lists of the run -/
structure Off (a b : Addr) (qs : Nat → Addr) (v : V) : Prop where
  a : v ≠ .ref a
  b : v ≠ .ref b
  q : ∀ i, i < 3 → v ≠ .ref (qs i)
def room (name : Str) : Nat := if name = "put" then 1000 else 0
theorem V1.not_ins {H : Hp} {p : Addr} {d : PyData} (h : V1 H (.ref p) d) {C dx : Addr} {fs : List (Str × V)} (e : H p = some (.ins C dx fs)) : False := by
  cases h with
  | flat f => cases f
  | lst h _ _ _ => rw [h] at e; cases e
  | tup h _ _ => rw [h] at e; cases e
  | dct h _ _ _ => rw [h] at e; cases e
theorem V1.at_none {H : Hp} {p : Addr} {d : PyData} (h : V1 H (.ref p) d) (e : H p = none) : False := by
  cases h with
  | flat f => cases f
  | lst h _ _ _ => rw [h] at e; cases e
  | tup h _ _ => rw [h] at e; cases e
  | dct h _ _ _ => rw [h] at e; cases e
theorem V1.isL {H : Hp} {v : V} {d : PyData} (h : V1 H v d) (e : isL d = true) : ∃ x xs ds, v = .ref x ∧ d = .list ds ∧ H x = some (.lst xs) ∧ x ≠ sysModules ∧ Paired FD xs ds ∧ xs.length ≤ 3 := by
  cases h with
  | flat f => cases f <;> cases e
  | lst h n p l => exact ⟨_, _, _, rfl, rfl, h, n, p, l⟩
  | tup h _ _ => cases e
  | dct h _ _ _ => cases e
theorem FD.shw {D : Nat} {v : V} {d : PyData} (h : FD v d) : Shw 1000 D d := by
  cases h with
  | non => exact Shw.non
  | bl b => exact Shw.bl b
  | int i h => exact (Shw.int h).le (by decide) (Nat.le_refl _)
  | str z h a => exact (Shw.str a).le h (Nat.le_refl _)
theorem FD.shws {D : Nat} : ∀ {xs : List V} {ds : List PyData}, Paired FD xs ds → Shws (1001 * xs.length) D ds
  | _, _, .nil => Shws.nil
  | _, _, .cons h t => (Shws.cons h.shw (FD.shws t)).le (by simp only [List.length_cons]; omega) (Nat.le_refl _)
theorem V1.shw {H : Hp} {v : V} {d : PyData} (h : V1 H v d) : Shw 7000 2 d := by
  cases h with
  | flat f => exact f.shw.le (by decide) (Nat.le_refl _)
  | lst h n p l => exact (Shw.list (FD.shws (D := 1) p)).le (by omega) (by decide)
  | tup h p l => exact (Shw.tuple (FD.shws (D := 1) p)).le (by omega) (by decide)
  | dct h a b f => exact (Shw.dict1 (Shw.str (D := 1) b) f.shw).le (by omega) (by decide)
theorem DVs.app {H : Hp} : ∀ {xs ys : List V} {ds es : List PyData}, DVs H xs ds → DVs H ys es → DVs H (xs ++ ys) (ds ++ es)
  | _, _, _, _, .nil, b => b
  | _, _, _, _, .cons h t, b => .cons h (DVs.app t b)
def replyD (d : PyData) : OutK → List PyData
  | .told _ _ => [.str "told", .none]
  | .signs => [.str "signs", d]
  | .count => [.str "count", d]
theorem asc_of {z : Str} (h : (z.cps.toList.all fun c => decide (c < 128)) = true) : Asc z := fun c hc => by
  have := List.all_eq_true.mp h c hc
  exact of_decide_eq_true this
theorem tag1 : Asc "told" := asc_of (by decide +kernel)
theorem tag2 : Asc "signs" := asc_of (by decide +kernel)
theorem tag3 : Asc "count" := asc_of (by decide +kernel)
theorem tag4 : Asc "more" := asc_of (by decide +kernel)
theorem left_good {B : Nat} {z : Str} {n i : Int} (g : GoodF B z n) : GoodF B (newZ z (left z i)) (newN n (left z i)) :=
  ⟨Nat.le_trans (cutS_length _ _ _) g.l, g.a.cut _ _, Int.natCast_nonneg _, Int.le_refl _⟩
theorem outc_kind {name : Str} {d : PyData} {z : Str} {n : Int} (hn : ¬ name = "put") : outc name d z n = .count ∨ ∃ i, outc name d z n = left z i := by
  unfold outc
  rw [if_neg hn]
  split
  · exact .inr ⟨_, rfl⟩
  · cases d with
    | int i =>
      simp only
      split
      · split
        · split
          · exact .inr ⟨_, rfl⟩
          · exact .inl rfl
        · split
          · exact .inr ⟨_, rfl⟩
          · exact .inr ⟨_, rfl⟩
      · exact .inl rfl
    | _ => exact .inl rfl
theorem outc_same {d : PyData} {name : Str} {z : Str} {n : Int} {B : Nat} (g : GoodF B z n) (hn : ¬ name = "put") : GoodF B (newZ z (outc name d z n)) (newN n (outc name d z n)) := by
  rcases outc_kind (d := d) (z := z) (n := n) hn with e | ⟨i, e⟩
  · rw [e]
    exact g
  · rw [e]
    exact left_good g
theorem GoodF.le {B B' : Nat} {z : Str} {n : Int} (g : GoodF B z n) (h : B ≤ B') : GoodF B' z n := ⟨Nat.le_trans g.l h, g.a, g.n0, g.n1⟩
theorem outc_put {d : PyData} {z : Str} {n : Int} {B M : Nat} (hv : ∀ y, d = .str y → y.length ≤ M ∧ Asc y) (g : GoodF B z n) : GoodF (B + M) (newZ z (outc "put" d z n)) (newN n (outc "put" d z n)) := by
  unfold outc
  rw [if_pos rfl]
  cases d with
  | str y =>
    obtain ⟨hl, ha⟩ := hv y rfl
    simp only
    split
    · refine ⟨?_, g.a.app ha, g.n0, ?_⟩
      · show (z ++ y).length ≤ _
        have := g.l
        rw [append_len]
        omega
      · show n ≤ ((z ++ y).length : Int)
        have := g.n1
        rw [append_len]
        omega
    · exact g.le (by omega)
  | _ => exact g.le (by omega)
theorem outc_good {H : Hp} {v : V} {d : PyData} {name : Str} {z : Str} {n : Int} {B : Nat} (hv : V1 H v d) (g : GoodF B z n) : GoodF (B + 1000) (newZ z (outc name d z n)) (newN n (outc name d z n)) := by
  by_cases hn : name = "put"
  · rw [hn]
    exact outc_put (fun y e => by obtain ⟨_, a, b⟩ := hv.strz y e; exact ⟨a, b⟩) g
  · exact (outc_same g hn).le (by omega)
def spDone (C : Addr) : Sp := fun vs H Q _ => ∃ a b ps qs zs ns B w t turn name v d, vs = [.ref a, .ref b, .int ((w : Nat) : Int), .ref t, .int turn] ∧ Three C H a b ps qs zs ns B ∧ B ≤ 9000 ∧ w < 3 ∧
  H t = some (.tup [.str name, v]) ∧ V1 H v d ∧ Off a b qs v ∧ name ∈ names5 ∧
  ∀ H', Three C H' a b ps qs (setAt zs w (newZ (zs w) (outc name d (zs w) (ns w)))) (setAt ns w (newN (ns w) (outc name d (zs w) (ns w)))) (B + 1000) →
    (∀ y o, y ≠ ps w → y ≠ qs w → v ≠ .ref y → H y = some o → H' y = some o) → Q (.bl true) H'
section
variable {P : Program} {w : World} {K : PySem.W.Frag} {mg : Str → Option Value} {base : Heap}
theorem ok_l_done (T : Tx K mg) : FnG P w K mg base 6 T.d_l_done.f T.d_l_done.fd ["_law_disks", "_law_states", "_law_which", "_law_deed_here", "_law_turn"] (spDone T.C_Disk) := by
  refine okG0 T.d_l_done.F sc_l_done (fun vs H Q E h => ?_) (fun cdv A outer s H vs Q E hg hr h => ?_)
  · obtain ⟨a, b, ps, qs, zs, ns, B, w, t, turn, name, v, d, rfl, _⟩ := h
    rfl
  obtain ⟨a, b, ps, qs, zs, ns, B, w, t, turn, name, v, d, rfl, h0, hB, hw, ht, hv, ho, hn, k⟩ := h
  refine ⟨_, (pss_cons (ps_set (i := 5) sc_l_done.nd rfl (Or.inl rfl) (pe_cG (ok_l_did T) T.d_l_did.b takes0 hg (hr.mono (by decide)) T.d_l_did.m T.d_l_did.F.kp (pa_cons (pe_ix ix_list (pv 0) (pv 2) (fun _ _ => rfl)) (pa_cons (pv 3) (pa_cons (pv 4) pa_nil)))))
    (pss_cons (ps_set (i := 6) sc_l_done.nd rfl (Or.inl rfl) (pe_cG (ok_l_due T) T.d_l_due.b takes0 hg (hr.mono (by decide)) T.d_l_due.m T.d_l_due.F.kp (pa_cons (pe_ix ix_list (pv 1) (pv 2) (fun _ _ => rfl)) (pa_cons (pv 3) pa_nil))))
    (pss_cons (ps_if (pt_val (pe_callB call_isi (by rfl) T.n_isinstance (by decide +kernel) (pa_cons (pe_ix ix_tup (pv 3) pe_int (fun _ _ => rfl)) (pa_cons (pe_bltn (v := .ty "list") (by rfl) T.n_list (by decide +kernel) rfl) pa_nil))))
      (pss_one (ps_expr (pe_bm PySem.F.plainAttrs_list PySem.F.slot_list_append PySem.F.type_list_append mt_append (pe_ix ix_tup (pv 3) pe_int (fun _ _ => rfl)) (pa_cons pe_str pa_nil))))
      pss_nil)
    (pss_one (ps_ret (pe_and (pe_cmpR op_eq (pe_callB (call_repr hg hr.units) (by rfl) T.n_repr (by decide +kernel) (pa_cons (pv 5) pa_nil)) (pe_callB (call_repr hg hr.units) (by rfl) T.n_repr (by decide +kernel) (pa_cons (pv 6) pa_nil)) (nomark _)) (pe_one (pe_cG (ok_l_is T) T.d_l_is.b takes0 hg (hr.mono (by decide)) T.d_l_is.m T.d_l_is.F.kp (pa_cons (pv 0) (pa_cons (pv 1) pa_nil)))))))))), ?_⟩
  walk_at "rd"
  refine r_ixL (SqL.of h0.ha) (at_three (f := fun i => V.ref (ps i)) hw) ?_
  have g := h0.ok w hw
  refine ⟨ps w, t, turn, name, v, d, zs w, ns w, rfl, h0.hp w hw, ht, hv, hn, by have := g.l; omega, g.n0, g.n1, fun l1 H1 f1 s1 e1 d1 x1 => ?_⟩
  walk_at "rd"
  obtain ⟨dx, dd⟩ := h0.hp w hw
  have keep1 : ∀ (y : Addr) (xs : List V), H y = some (.lst xs) → H1 y = some (.lst xs) := fun y xs h => x1 y _ (fun e => by rw [e, dd] at h; cases h) h
  have keep1t : ∀ (y : Addr) (xs : List V), H y = some (.tup xs) → H1 y = some (.tup xs) := fun y xs h => x1 y _ (fun e => by rw [e, dd] at h; cases h) h
  have hv1 : V1 H1 v d := hv.mono fun y o e h => x1 y o (fun e2 => by
    subst e
    rw [e2] at hv
    exact hv.not_ins dd) h
  have ht1 := keep1t _ _ ht
  have hq1 := keep1 _ _ (h0.hq w hw)
  refine r_ixL (SqL.of (keep1 _ _ h0.hb)) (at_three (f := fun i => V.ref (qs i)) hw) ?_
  refine ⟨qs w, t, name, v, d, zs w, ns w, rfl, hq1, ht1, hv1, hn, by have := g.l; omega, g.n0, g.n1, fun l2 H2 f2 s2 e2 d2 x2 => ?_⟩
  have l1q : l1 ≠ qs w := fun e => by
    rw [e, h0.hq w hw] at f1
    cases f1
  have e1' := x2 _ _ l1q e1
  have hv2 : V1 H2 v d := hv1.mono fun y o e h => x2 y o (fun e2 => ho.q w hw (by rw [e, e2])) h
  have ht2 : H2 t = some (.tup [.str name, v]) := x2 _ _ (fun e => by rw [e, hq1] at ht1; cases ht1) ht1
  refine r_ixT (SqT.of ht2) (at1 rfl) ?_
  walk_at "rd"
  refine r_isi hv2.dv (kit_list d) ⟨_, rfl, ?_⟩
  have h2 : Three T.C_Disk H2 a b ps qs (setAt zs w (newZ (zs w) (outc name d (zs w) (ns w)))) (setAt ns w (newN (ns w) (outc name d (zs w) (ns w)))) (B + 1000) := by
    refine ⟨?_, ?_, ?_, ?_, h0.sq, h0.np, h0.nq, ?_⟩
    · exact x2 _ _ (fun e => by have := h0.ha; rw [e, h0.hq w hw] at this; cases this) (keep1 _ _ h0.ha)
    · exact x2 _ _ (fun e => by have := h0.hb; rw [e, h0.hq w hw] at this; cases this) (keep1 _ _ h0.hb)
    · intro i hi
      by_cases e : i = w
      · subst e
        obtain ⟨dy, h⟩ := d1
        refine ⟨dy, ?_⟩
        simp only [setAt, ↓reduceIte]
        exact x2 _ _ (fun e => by rw [e, hq1] at h; cases h) h
      · obtain ⟨dy, h⟩ := h0.hp i hi
        refine ⟨dy, ?_⟩
        simp only [setAt, e, ↓reduceIte]
        have h1 := x1 _ _ (h0.np i w hi hw e) h
        exact x2 _ _ (fun e => by rw [e, hq1] at h1; cases h1) h1
    · intro i hi
      by_cases e : i = w
      · subst e
        simp only [setAt, ↓reduceIte]
        exact d2
      · simp only [setAt, e, ↓reduceIte]
        exact x2 _ _ (h0.nq i w hi hw e) (keep1 _ _ (h0.hq i hi))
    · intro i hi
      by_cases e : i = w
      · subst e
        simp only [setAt, ↓reduceIte]
        exact outc_good hv g
      · simp only [setAt, e, ↓reduceIte]
        have := h0.ok i hi
        exact ⟨by have := this.l; omega, this.a, this.n0, this.n1⟩
  have fin : ∀ (H3 : Hp) (d3 : PyData) (E3 : XK), DV H3 v d3 → Shw 7000 2 d3 → (∀ y o, v ≠ .ref y → H2 y = some o → H3 y = some o) →
      rRepr [V.ref l1] H3 fun x H1 => rRepr [V.ref l2] H1 fun y H2 => scal x y = true ∧ if x = y then spIs T.C_Disk [V.ref a, V.ref b] H2 Q E3 else Q (V.bl false) H2 := by
    intro H3 d3 E3 hd sh kp
    have n1 : v ≠ .ref l1 := fun e => by
      subst e
      exact hv.at_none f1
    have n2 : v ≠ .ref l2 := fun e => by
      subst e
      exact hv1.at_none f2
    have g1 := kp _ _ n1 e1'
    have g2 := kp _ _ n2 e2
    obtain ⟨dr, hdr⟩ : ∃ dr, dr = replyD d3 (outc name d (zs w) (ns w)) := ⟨_, rfl⟩
    have dv : ∀ l, H3 l = some (.lst (reply v (outc name d (zs w) (ns w)))) → l ≠ sysModules → DV H3 (.ref l) (.list dr) := fun l hl nl => .lst hl nl (by
      rw [hdr]
      cases outc name d (zs w) (ns w) with
      | told _ _ => exact .cons (.str _) (.cons .non .nil)
      | signs => exact .cons (.str _) (.cons hd .nil)
      | count => exact .cons (.str _) (.cons hd .nil))
    have sr : Shw 8000 3 (.list dr) := by
      rw [hdr]
      cases outc name d (zs w) (ns w) with
      | told _ _ => exact (Shw.list (Shws.cons (W1 := 4) (D := 2) (Shw.str (z := "told") tag1) (Shws.cons (W1 := 0) Shw.non (Shws.nil (W := 0))))).le (by decide) (by decide)
      | signs => exact (Shw.list (Shws.cons (W1 := 5) (D := 2) (Shw.str (z := "signs") tag2) (Shws.cons sh (Shws.nil (W := 0))))).le (by decide) (by decide)
      | count => exact (Shw.list (Shws.cons (W1 := 5) (D := 2) (Shw.str (z := "count") tag3) (Shws.cons sh (Shws.nil (W := 0))))).le (by decide) (by decide)
    refine r_repr (dv l1 g1 s1) sr (by decide) (by decide) (r_repr (dv l2 g2 s2) sr (by decide) (by decide) ⟨by simp [scal], ?_⟩)
    rw [if_pos rfl]
    have h3 : Three T.C_Disk H3 a b ps qs (setAt zs w (newZ (zs w) (outc name d (zs w) (ns w)))) (setAt ns w (newN (ns w) (outc name d (zs w) (ns w)))) (B + 1000) :=
      ⟨kp _ _ ho.a h2.ha, kp _ _ ho.b h2.hb, fun i hi => (by
        obtain ⟨dy, h⟩ := h2.hp i hi
        exact ⟨dy, kp _ _ (fun e => by subst e; exact hv2.not_ins h) h⟩), fun i hi => kp _ _ (ho.q i hi) (h2.hq i hi), h2.sq, h2.np, h2.nq, h2.ok⟩
    refine ⟨a, b, ps, qs, _, _, _, rfl, h3, by omega, fun H4 S4 => k H4 (h3.mono S4) fun y o y1 y2 y3 y4 => ?_⟩
    exact S4 _ _ (kp _ _ y3 (x2 _ _ y2 (x1 _ _ y1 y4)))
  by_cases hl : isL d = true
  · rw [if_pos hl]
    refine r_ixT (SqT.of ht2) (at1 rfl) ?_
    obtain ⟨x, xs, ds, rfl, rfl, hx, nx, pr, le⟩ := hv2.isL hl
    refine ⟨(show tyV K "list" (V.ref x) H2 from .inl ⟨rfl, xs, SqL.of hx⟩), x, xs, _, rfl, rfl, hx, by have : sizeLine = 16777216 := sizeLine_eq; omega, ?_⟩
    refine fin _ (.list (ds ++ [.str "more"])) _ (.lst upd_same nx (DVs.app ((FD.dvs pr)) (.cons (.str _) .nil))) ?_ ?_
    · have a1 := FD.shws (D := 1) pr
      have a2 : Shws 5 1 [PyData.str "more"] := (Shws.cons (W1 := 4) (Shw.str (z := "more") tag4) (Shws.nil (W := 0)))
      exact (Shw.list (Shws.app a1 a2)).le (by omega) (Nat.le_refl _)
    · intro y o ny hy
      rw [upd_ne (fun e => ny (by rw [e]))]
      exact hy
  · rw [if_neg hl]
    exact fin H2 d _ hv2.dv hv2.shw fun y o _ h => h
end
end K04


namespace K04
open PySem L2 Nv

def spRight : Sp := fun vs H Q _ => ∃ p, vs = [.ref p] ∧ BoxAt H p 0 ∧ ∀ H', Ext1 p H H' → Q (.bl true) H'
theorem three_n {i : Nat} (h : i < 3) : i = 0 ∨ i = 1 ∨ i = 2 := by omega
theorem Three.ext1 {C : Addr} {H H' : Hp} {a b p : Addr} {ps qs : Nat → Addr} {zs : Nat → Str} {ns : Nat → Int} {B N : Nat} (hb : BoxAt H p N) (e : Ext1 p H H') (h : Three C H a b ps qs zs ns B) : Three C H' a b ps qs zs ns B := by
  obtain ⟨n, bb, m, c, hx, _⟩ := hb
  refine ⟨e _ _ (fun q => ?_) h.ha, e _ _ (fun q => ?_) h.hb, fun i hi => ?_, fun i hi => e _ _ (fun q => ?_) (h.hq i hi), h.sq, h.np, h.nq, h.ok⟩
  · have := h.ha
    rw [q, hx] at this
    cases this
  · have := h.hb
    rw [q, hx] at this
    cases this
  · obtain ⟨dx, hd⟩ := h.hp i hi
    refine ⟨dx, e _ _ (fun q => ?_) hd⟩
    rw [q, hx] at hd
    cases hd
  · have := h.hq i hi
    rw [q, hx] at this
    cases this
theorem Three.le {C : Addr} {H : Hp} {a b : Addr} {ps qs : Nat → Addr} {zs : Nat → Str} {ns : Nat → Int} {B B' : Nat} (h : Three C H a b ps qs zs ns B) (l : B ≤ B') : Three C H a b ps qs zs ns B' :=
  ⟨h.ha, h.hb, h.hp, h.hq, h.sq, h.np, h.nq, fun i hi => (h.ok i hi).le l⟩
theorem Three.off {C : Addr} {H : Hp} {a b : Addr} {ps qs : Nat → Addr} {zs : Nat → Str} {ns : Nat → Int} {B : Nat} {v : V} (h : Three C H a b ps qs zs ns B) (ap : Apart H v) : Off a b qs v :=
  ⟨fun e => (by have q := ap _ e; rw [h.ha] at q; cases q), fun e => (by have q := ap _ e; rw [h.hb] at q; cases q), fun i hi e => (by have q := ap _ e; rw [h.hq i hi] at q; cases q)⟩
/-- where a turn of the run begins -/
def Turn (C p a b : Addr) (ps qs : Nat → Addr) (H0 : Hp) (B N : Nat) (σ : L2.St) (H : Hp) : Prop := ∃ zs ns x3 x4 x5 x6 x7, σ = [some (.ref p), some (.ref a), some (.ref b), x3, x4, x5, x6, x7] ∧ Three C H a b ps qs zs ns B ∧ BoxAt H p N ∧ Ext1 p H0 H
theorem BoxAt.keep {C : Addr} {H0 H H' : Hp} {a b p : Addr} {ps qs : Nat → Addr} {zs : Nat → Str} {ns : Nat → Int} {B N M w : Nat} {v : V} (hb : BoxAt H p N) (h : Three C H a b ps qs zs ns B) (hw : w < 3) (ap : v = .ref p → H0 p = none) (h0 : BoxAt H0 p M)
    (kp : ∀ y o, y ≠ ps w → y ≠ qs w → v ≠ .ref y → H y = some o → H' y = some o) : BoxAt H' p N := by
  obtain ⟨n, bb, m, c, hx, r⟩ := hb
  refine ⟨n, bb, m, c, kp _ _ (fun e => ?_) (fun e => ?_) (fun e => ?_) hx, r⟩
  · obtain ⟨dx, hd⟩ := h.hp w hw
    rw [← e, hx] at hd
    cases hd
  · have := h.hq w hw
    rw [← e, hx] at this
    cases this
  · obtain ⟨_, _, _, _, hy, _⟩ := h0
    rw [ap e] at hy
    cases hy
section
variable {P : Program} {w : World} {K : PySem.W.Frag} {mg : Str → Option Value} {base : Heap}
theorem ok_l_right (T : Tx K mg) : FnG P w K mg base 7 T.d_l_right.f T.d_l_right.fd ["_law_box_here"] spRight := by
  refine okG0 T.d_l_right.F sc_l_right (fun vs H Q E h => ?_) (fun cdv A outer s H vs Q E hg hr h => ?_)
  · obtain ⟨p, rfl, _⟩ := h
    rfl
  obtain ⟨p, rfl, hp, k⟩ := h
  have hr1 : Room 2 (A.deeper (PyProof.Rows.envOfC "_law_right" (defScope s_l_right) s.heap.objs.size T.d_l_right.f cdv)) := hr.mono (by decide)
  refine ⟨_, (pss_cons (ps_par (i := 1) (j := 2) rfl sc_l_right.nd rfl rfl (by decide) rfl rfl (pa_cons (pe_lst1 (pa_cons (pe_make0 T.k_Disk (ok_Disk_init T) hr1 rfl T.m_Disk T.d_Disk_init.bi .nil pass0) (pa_cons (pe_make0 T.k_Disk (ok_Disk_init T) hr1 rfl T.m_Disk T.d_Disk_init.bi .nil pass0) (pa_cons (pe_make0 T.k_Disk (ok_Disk_init T) hr1 rfl T.m_Disk T.d_Disk_init.bi .nil pass0) pa_nil)))) (pa_cons (pe_lst1 (pa_cons (pe_lst1 (pa_cons pe_str (pa_cons pe_int pa_nil))) (pa_cons (pe_lst1 (pa_cons pe_str (pa_cons pe_int pa_nil))) (pa_cons (pe_lst1 (pa_cons pe_str (pa_cons pe_int pa_nil))) pa_nil)))) pa_nil)) (by rfl))
    (pss_cons (ps_if (pt_not (pt_val (pe_cG (ok_l_is T) T.d_l_is.b takes0 hg (hr.mono (by decide)) T.d_l_is.m T.d_l_is.F.kp (pa_cons (pv 1) (pa_cons (pv 2) pa_nil)))))
      (pss_one (ps_ret pe_bl))
      pss_nil)
    (pss_cons (ps_for PassesOwn.never rfl (pi_range1 (by rfl) T.n_range (pa_cons pe_int pa_nil)) (pg_name (i := 3) sc_l_right.nd rfl (Or.inl rfl))
      (pss_cons (ps_par (i := 4) (j := 5) rfl sc_l_right.nd rfl rfl (by decide) rfl rfl (pa_cons (pe_cG (ok_l_take T) T.d_l_take.b takes0 hg (hr.mono (by decide)) T.d_l_take.m T.d_l_take.F.kp (pa_cons (pv 0) (pa_cons pe_int pa_nil))) (pa_cons (pe_cG (ok_l_take T) T.d_l_take.b takes0 hg (hr.mono (by decide)) T.d_l_take.m T.d_l_take.F.kp (pa_cons (pv 0) (pa_cons pe_int pa_nil))) pa_nil)) (by rfl))
      (pss_cons (ps_set (i := 6) sc_l_right.nd rfl (Or.inl rfl) (pe_cG (ok_l_deed T) T.d_l_deed.b takes0 hg (hr.mono (by decide)) T.d_l_deed.m T.d_l_deed.F.kp (pa_cons (pv 0) (pa_cons (pe_ix ix_list (pe_ix ix_list (pv 2) (pv 4) (fun _ _ => rfl)) pe_int (fun _ _ => rfl)) (pa_cons (pe_ix ix_list (pe_ix ix_list (pv 2) (pv 4) (fun _ _ => rfl)) pe_int (fun _ _ => rfl)) pa_nil)))))
      (pss_one (ps_if (pt_not (pt_val (pe_cG (ok_l_done T) T.d_l_done.b takes0 hg (hr.mono (by decide)) T.d_l_done.m T.d_l_done.F.kp (pa_cons (pv 1) (pa_cons (pv 2) (pa_cons (pv 4) (pa_cons (pv 6) (pa_cons (pv 5) pa_nil))))))))
        (pss_one (ps_ret pe_bl))
        pss_nil)))))
    (pss_cons (ps_for PassesOwn.never rfl (pi_range1 (by rfl) T.n_range (pa_cons pe_int pa_nil)) (pg_name (i := 3) sc_l_right.nd rfl (Or.inl rfl))
      (pss_cons (ps_par (i := 4) (j := 7) rfl sc_l_right.nd rfl rfl (by decide) rfl rfl (pa_cons (pe_op op_modN (pe_callTy call_intI (by rfl) T.n_int (by decide +kernel) (pa_cons (pv 3) pa_nil)) pe_int) (pa_cons (pe_callB call_len_str (by rfl) T.n_len (by decide +kernel) (pa_cons (pe_ix ix_list (pe_ix ix_list (pv 2) (pe_op op_modN (pe_callTy call_intI (by rfl) T.n_int (by decide +kernel) (pa_cons (pv 3) pa_nil)) pe_int) (fun _ _ => rfl)) pe_int (fun _ _ => rfl)) pa_nil)) pa_nil)) (by rfl))
      (pss_cons (ps_set (i := 6) sc_l_right.nd rfl (Or.inl rfl) (pe_ix ix_list (pe_lst1 (pa_cons (pe_tup (pa_cons pe_str (pa_cons pe_str pa_nil))) (pa_cons (pe_tup (pa_cons pe_str (pa_cons (pe_op op_add (pv 7) pe_int) pa_nil))) (pa_cons (pe_tup (pa_cons pe_str (pa_cons pe_str pa_nil))) (pa_cons (pe_tup (pa_cons pe_str (pa_cons (pe_op op_fdivN (pv 7) pe_int) pa_nil))) pa_nil))))) (pe_op op_fdivN (pv 3) pe_int) (fun _ _ => rfl)))
      (pss_one (ps_if (pt_not (pt_val (pe_cG (ok_l_done T) T.d_l_done.b takes0 hg (hr.mono (by decide)) T.d_l_done.m T.d_l_done.F.kp (pa_cons (pv 1) (pa_cons (pv 2) (pa_cons (pv 4) (pa_cons (pv 6) (pa_cons (pe_cG (ok_l_take T) T.d_l_take.b takes0 hg (hr.mono (by decide)) T.d_l_take.m T.d_l_take.F.kp (pa_cons (pv 0) (pa_cons pe_int pa_nil))) pa_nil))))))))
        (pss_one (ps_ret pe_bl))
        pss_nil)))))
    (pss_one (ps_ret pe_bl)))))), ?_⟩
  walk_at "rd"
  have mk : ∀ (H H' : Hp) (x dx : Addr) (o1 o2 : HO), H x = none → H dx = none → Ext1 x (upd (upd H dx o1) x o2) H' → Same H H' := fun H H' x dx o1 o2 hx hdx e y o hy => by
    have n1 := ne_of_none hy hx
    refine e y o n1 ?_
    rw [upd_ne n1, upd_ne (ne_of_none hy hdx)]
    exact hy
  intro x0 y0 f0 g0 m0
  refine ⟨x0, y0, rfl, upd_same, fun H1 d0 e1 => ⟨rfl, ?_⟩⟩
  have S1 := mk H H1 x0 y0 _ _ f0 g0 e1
  intro x1 y1 f1 g1 m1
  refine ⟨x1, y1, rfl, upd_same, fun H2 d1 e2 => ⟨rfl, ?_⟩⟩
  have S2 := mk H1 H2 x1 y1 _ _ f1 g1 e2
  intro x2 y2 f2 g2 m2
  refine ⟨x2, y2, rfl, upd_same, fun H3 d2 e3 => ⟨rfl, ?_⟩⟩
  have S3 := mk H2 H3 x2 y2 _ _ f2 g2 e3
  clear mk e1 e2 e3
  have dn : ∀ {H : Hp} {q : Addr} {z : Str} {n : Int}, DiskAt T.C_Disk H q z n → H q ≠ none := fun h e => by
    obtain ⟨dx, h⟩ := h
    rw [h] at e
    cases e
  have n01 : x0 ≠ x1 := fun e => dn d0 (e ▸ f1)
  have n02 : x0 ≠ x2 := fun e => dn (d0.mono S2) (e ▸ f2)
  have n12 : x1 ≠ x2 := fun e => dn d1 (e ▸ f2)
  have z1 : H x1 = none := S1.free f1
  have z2 : H x2 = none := S1.free (S2.free f2)
  have S03 : Same H H3 := (S1.trans S2).trans S3
  have z0 := f0
  have D0 := (d0.mono S2).mono S3
  have D1 := d1.mono S3
  have B3 : BoxAt H3 p 0 := ((hp.mono S1).mono S2).mono S3
  clear S1 S2 S3 d0 d1 f0 g0 m0 f1 g1 m1 f2 g2 m2
  refine ⟨by decide, fun a fa na => ?_⟩
  obtain ⟨H4, e4, S4, h4⟩ := gen_new (.lst [V.ref x0, V.ref x1, V.ref x2]) fa
  simp only [e4]
  refine ⟨by decide, fun q0 f0 s0 => ?_⟩
  obtain ⟨H5, e5, S5, h5⟩ := gen_new (.lst [V.str (Str.ofString ""), V.int 0]) f0
  simp only [e5]
  refine ⟨by decide, fun q1 f1 s1 => ?_⟩
  obtain ⟨H6, e6, S6, h6⟩ := gen_new (.lst [V.str (Str.ofString ""), V.int 0]) f1
  simp only [e6]
  refine ⟨by decide, fun q2 f2 s2 => ?_⟩
  obtain ⟨H7, e7, S7, h7⟩ := gen_new (.lst [V.str (Str.ofString ""), V.int 0]) f2
  simp only [e7]
  refine ⟨by decide, fun b fb nb => ?_⟩
  obtain ⟨H8, e8, S8, h8⟩ := gen_new (.lst [V.ref q0, V.ref q1, V.ref q2]) fb
  simp only [e8]
  have S38 : Same H3 H8 := (((S4.trans S5).trans S6).trans S7).trans S8
  have w0 : H q0 = none := S03.free (S4.free f0)
  have w1 : H q1 = none := S03.free (S4.free (S5.free f1))
  have w2 : H q2 = none := S03.free (S4.free (S5.free (S6.free f2)))
  have S08 : Same H H8 := S03.trans S38
  have k01 : q0 ≠ q1 := fun e => by
    rw [← e, h5] at f1
    cases f1
  have k02 : q0 ≠ q2 := fun e => by
    rw [← e, S6 _ _ h5] at f2
    cases f2
  have k12 : q1 ≠ q2 := fun e => by
    rw [← e, h6] at f2
    cases f2
  obtain ⟨ps, hps⟩ : ∃ ps : Nat → Addr, ps = fun i => if i = 0 then x0 else if i = 1 then x1 else x2 := ⟨_, rfl⟩
  obtain ⟨qs, hqs⟩ : ∃ qs : Nat → Addr, qs = fun i => if i = 0 then q0 else if i = 1 then q1 else q2 := ⟨_, rfl⟩
  have fr : ∀ i, i < 3 → H (ps i) = none ∧ H (qs i) = none := by
    subst hps hqs
    intro i hi
    rcases three_n hi with e | e | e <;> subst e
    · exact ⟨z0, w0⟩
    · exact ⟨z1, w1⟩
    · exact ⟨z2, w2⟩
  have th : Three T.C_Disk H8 a b ps qs (fun _ => Str.empty) (fun _ => 0) 0 := by
    subst hps hqs
    refine ⟨(((S5.trans S6).trans S7).trans S8) _ _ h4, h8, ?_, ?_, ?_, ?_, ?_, ?_⟩
    · intro i hi
      rcases three_n hi with e | e | e <;> subst e
      · exact D0.mono S38
      · exact D1.mono S38
      · exact d2.mono S38
    · intro i hi
      rcases three_n hi with e | e | e <;> subst e
      · exact ((S6.trans S7).trans S8) _ _ h5
      · exact (S7.trans S8) _ _ h6
      · exact S8 _ _ h7
    · intro i hi
      rcases three_n hi with e | e | e <;> subst e
      · exact s0
      · exact s1
      · exact s2
    · intro i j hi hj n
      rcases three_n hi with e | e | e <;> subst e <;> rcases three_n hj with e | e | e <;> subst e <;> first | exact absurd rfl n | assumption | exact Ne.symm (by assumption)
    · intro i j hi hj n
      rcases three_n hi with e | e | e <;> subst e <;> rcases three_n hj with e | e | e <;> subst e <;> first | exact absurd rfl n | assumption | exact Ne.symm (by assumption)
    · exact fun i _ => ⟨Nat.zero_le _, Asc.empty, Int.le_refl _, Int.le_refl _⟩
  have bx : BoxAt H8 p 0 := B3.mono S38
  clear z0 z1 z2 w0 w1 w2 S03 hps hqs h4 h5 h6 h7 h8 e4 e5 e6 e7 e8 S4 S5 S6 S7 S8 S38 B3 D0 D1 d2 k01 k02 k12 n01 n02 n12 fa f0 f1 f2 fb na s0 s1 s2 nb hp dn
  refine ⟨a, b, ps, qs, _, _, 0, rfl, th, by decide, fun H9 S9 => ?_⟩
  refine ⟨_, rfl, ?_⟩
  simp only [Bool.true_eq_false, ↓reduceIte]
  have th9 := th.mono S9
  have bx9 := bx.mono S9
  have X9 : Ext1 p H H9 := Nv.Same.ext1 (S08.trans S9)
  refine ⟨40, rfl, by decide, by decide, ?_⟩
  have th0 : Three T.C_Disk H9 a b ps qs (fun _ => Str.empty) (fun _ => 0) 4000 := th9.le (by decide)
  refine for_range (fun i σ H' => Turn T.C_Disk p a b ps qs H 4000 (50 * i) σ H') ⟨_, _, _, _, _, _, _, rfl, th0, bx9, X9⟩ ?_ ?_
  · rintro i σ H1 hi ⟨zs, ns, y3, y4, y5, y6, y7, rfl, h1, b1, X1⟩
    have hi' : i < 40 := hi
    clear th0 th9 bx9 S9 th bx
    walk_at "rd"
    refine ⟨p, 3, 50 * i, rfl, b1, by omega, by decide, by decide, fun d2 H2 d0 d1 b2 e2 => ?_⟩
    have h2 := h1.ext1 b1 e2
    obtain ⟨w, rfl⟩ : ∃ w : Nat, d2 = (w : Int) := ⟨d2.toNat, by omega⟩
    have hw : w < 3 := by omega
    refine ⟨p, 2, _, rfl, b2, by omega, by decide, by decide, fun turn H3 _ _ b3 e3 => ?_⟩
    have h3 := h2.ext1 b2 e3
    walk_at "rd"
    refine r_ixL (SqL.of h3.hb) (at_three (f := fun i => V.ref (qs i)) hw) ?_
    refine r_ixL (SqL.of (h3.hq w hw)) (at0 rfl) ?_
    refine r_ixL (SqL.of h3.hb) (at_three (f := fun i => V.ref (qs i)) hw) ?_
    refine r_ixL (SqL.of (h3.hq w hw)) (at1 rfl) ?_
    have g := h3.ok w hw
    refine ⟨p, zs w, ns w, _, rfl, b3, by omega, g.l, g.n0, g.n1, fun t name v d H4 ht ft hv ap hn hput b4 e4 => ?_⟩
    have h4 := h3.ext1 b3 e4
    walk_at "rd"
    refine ⟨a, b, ps, qs, zs, ns, 4000, w, t, turn, name, v, d, rfl, h4, by decide, hw, ht, hv, h3.off ap, hn, fun H5 h5 kp => ?_⟩
    walk_at "rd"
    refine ⟨_, _, _, _, _, _, _, rfl, ⟨h5.ha, h5.hb, h5.hp, h5.hq, h5.sq, h5.np, h5.nq, fun j hj => ?_⟩, (b4.keep h4 hw (fun e => ap _ e) b3 kp).le (by omega), fun y o ny hy => ?_⟩
    rotate_left
    · have y3 := e3 _ _ ny (e2 _ _ ny (X1 _ _ ny hy))
      exact kp _ _ (ne_of_none hy (fr w hw).1) (ne_of_none hy (fr w hw).2) (fun e => by have q := ap _ e; rw [y3] at q; cases q) (e4 _ _ ny y3)
    by_cases e : j = w
    · subst e
      simp only [setAt, ↓reduceIte]
      by_cases hq : name = "put"
      · rw [hq]
        have g2 : GoodF 2500 (zs j) (ns j) := ⟨hput hq, g.a, g.n0, g.n1⟩
        exact (outc_put (M := 1000) (fun y e => by obtain ⟨_, a, b⟩ := hv.strz y e; exact ⟨a, b⟩) g2).le (by decide)
      · exact outc_same g hq
    · simp only [setAt, e, ↓reduceIte]
      exact h4.ok j hj
  · rintro σ H1 ⟨zs, ns, y3, y4, y5, y6, y7, rfl, h1, b1, X1⟩
    walk_at "rd"
    clear th0 th9 bx9 S9 th bx
    refine ⟨12, rfl, by decide, by decide, ?_⟩
    refine for_range (fun i σ H' => Turn T.C_Disk p a b ps qs H (4000 + 10 * i) (2000 + i) σ H') ⟨_, _, _, _, _, _, _, rfl, h1.le (by decide), b1.le (by decide), X1⟩ ?_ ?_
    · clear h1 b1 X1
      rintro i σ H1 hi ⟨zs, ns, y3, y4, y5, y6, y7, rfl, h1, b1, X1⟩
      have hi' : i < 12 := hi
      walk_at "rd"
      obtain ⟨w, hw, ew⟩ : ∃ w : Nat, w < 3 ∧ ((0 : Int) + (i : Int)).fmod 3 = (w : Int) := ⟨i % 3, by omega, by
        rw [Int.zero_add, Int.fmod_eq_emod_of_nonneg _ (by decide)]
        omega⟩
      rw [ew]
      refine ⟨by decide, by decide, ?_⟩
      refine r_ixL (SqL.of h1.hb) (at_three (f := fun i => V.ref (qs i)) hw) ?_
      refine r_ixL (SqL.of (h1.hq w hw)) (at0 rfl) ?_
      have g := h1.ok w hw
      have sz : sizeLine = 16777216 := sizeLine_eq
      refine ⟨_, rfl, by have := g.l; omega, by decide, fun t0 f0 => ?_⟩
      obtain ⟨G0, e0, S0, h0⟩ := gen_new (.tup [V.str (Str.ofString "put"), V.str (Str.ofString " ab c ")]) f0
      simp only [e0]
      refine ⟨by decide, fun t1 f1 => ?_⟩
      obtain ⟨G1, e1, S1, k1⟩ := gen_new (.tup [V.str (Str.ofString "fall"), V.int (((zs w).length : Int) + 2)]) f1
      simp only [e1]
      refine ⟨by decide, fun t2 f2 => ?_⟩
      obtain ⟨G2, e2, S2, k2⟩ := gen_new (.tup [V.str (Str.ofString "put"), V.str (Str.ofString "x ")]) f2
      simp only [e2]
      refine ⟨⟨by decide, by decide⟩, by decide, fun t3 f3 => ?_⟩
      obtain ⟨G3, e3, S3, k3⟩ := gen_new (.tup [V.str (Str.ofString "lose"), V.int (((zs w).length : Int).fdiv 2)]) f3
      simp only [e3]
      refine ⟨by decide, fun l fl nl => ?_⟩
      obtain ⟨G4, e4, S4, k4⟩ := gen_new (.lst [V.ref t0, V.ref t1, V.ref t2, V.ref t3]) fl
      simp only [e4]
      refine ⟨⟨by decide, by decide⟩, ?_⟩
      have SA := (((S0.trans S1).trans S2).trans S3).trans S4
      have h4 := h1.mono SA
      have b4 : BoxAt G4 p (2000 + i) := b1.mono SA
      have l1 : (Str.ofString " ab c ").length = 6 := by decide +kernel
      have l2 : (Str.ofString "x ").length = 2 := by decide +kernel
      have a1 : Asc (Str.ofString " ab c ") := asc_of (by decide +kernel)
      have a2 : Asc (Str.ofString "x ") := asc_of (by decide +kernel)
      have gl := g.l
      obtain ⟨t, name, v, d, hat, ht, hf, hn, hl⟩ : ∃ (t : Addr) (name : Str) (v : V) (d : PyData), atI [V.ref t0, V.ref t1, V.ref t2, V.ref t3] (((0 : Int) + (i : Int)).fdiv 3) = some (.ref t) ∧ G4 t = some (.tup [.str name, v]) ∧ FD v d ∧ name ∈ names5 ∧
          (∀ y, d = .str y → y.length ≤ 10 ∧ Asc y) := by
        obtain ⟨j, hj, ej⟩ : ∃ j : Nat, j < 4 ∧ ((0 : Int) + (i : Int)).fdiv 3 = (j : Int) := ⟨i / 3, by omega, by
          rw [Int.zero_add, Int.fdiv_eq_ediv_of_nonneg _ (by decide)]
          omega⟩
        rw [ej]
        have q0 := (((S1.trans S2).trans S3).trans S4) _ _ h0
        have q1 := ((S2.trans S3).trans S4) _ _ k1
        have q2 := (S3.trans S4) _ _ k2
        have q3 := S4 _ _ k3
        have hd : ((zs w).length : Int).fdiv 2 ≤ (zs w).length ∧ 0 ≤ ((zs w).length : Int).fdiv 2 := by
          rw [Int.fdiv_eq_ediv_of_nonneg _ (by decide)]
          omega
        rcases j with _ | _ | _ | _ | j
        · exact ⟨t0, _, _, _, atI_nat (j := 0) rfl, q0, .str _ (by omega) a1, by simp [names5], fun y e => by cases e; exact ⟨by omega, a1⟩⟩
        · exact ⟨t1, _, _, _, atI_nat (j := 1) rfl, q1, .int _ (by omega), by simp [names5], fun y e => by cases e⟩
        · exact ⟨t2, _, _, _, atI_nat (j := 2) rfl, q2, .str _ (by omega) a2, by simp [names5], fun y e => by cases e; exact ⟨by omega, a2⟩⟩
        · exact ⟨t3, _, _, _, atI_nat (j := 3) rfl, q3, .int _ (by omega), by simp [names5], fun y e => by cases e⟩
        · omega
      refine r_ixL (SqL.of k4) hat ?_
      refine ⟨p, 2, _, rfl, b4, by omega, by decide, by decide, fun turn H5 _ _ b5 e5 => ?_⟩
      have h5 := h4.ext1 b4 e5
      have tp : t ≠ p := fun e => by
        obtain ⟨_, _, _, _, hx, _⟩ := b4
        rw [e, hx] at ht
        cases ht
      have nr : ∀ x, v ≠ .ref x := fun x e => by
        subst e
        cases hf
      refine ⟨a, b, ps, qs, zs, ns, _, w, t, turn, name, v, d, rfl, h5, by omega, hw, e5 _ _ tp ht, .flat hf, ⟨nr _, nr _, fun _ _ => nr _⟩, hn, fun H6 h6 kp => ⟨_, rfl, ?_⟩⟩
      simp only [Bool.true_eq_false, ↓reduceIte]
      refine ⟨_, _, _, _, _, _, _, rfl, ⟨h6.ha, h6.hb, h6.hp, h6.hq, h6.sq, h6.np, h6.nq, fun j hj => ?_⟩, (b5.keep h5 hw (fun e => absurd e (nr _)) b5 kp).le (by omega), fun y o ny hy => kp _ _ (ne_of_none hy (fr w hw).1) (ne_of_none hy (fr w hw).2) (nr _) (e5 _ _ ny (SA _ _ (X1 _ _ ny hy)))⟩
      by_cases e : j = w
      · subst e
        simp only [setAt, ↓reduceIte]
        by_cases hq : name = "put"
        · rw [hq]
          exact (outc_put (M := 10) hl g).le (by omega)
        · exact (outc_same g hq).le (by omega)
      · simp only [setAt, e, ↓reduceIte]
        exact (h5.ok j hj).le (by omega)
    · rintro σ H1 ⟨zs, ns, y3, y4, y5, y6, y7, rfl, h1, b1, X1⟩
      walk_at "rd"
      exact k _ X1
end
end K04


namespace K04
open PySem L2 Nv

def spLaw (K : PySem.W.Frag) : Sp := fun vs H Q _ => ∃ (a : Addr) (ns : List Int), vs = [.ref a] ∧ SqL K H a (ns.map V.int) ∧ ns.length ≤ 63 ∧ ∀ H', Q (.bl true) H'
section
variable {P : Program} {w : World} {K : PySem.W.Frag} {mg : Str → Option Value} {base : Heap}
theorem ok_law (T : Tx K mg) : FnG P w K mg base 8 T.d_law.f T.d_law.fd ["_law_script"] (spLaw K) := by
  refine okG0 T.d_law.F sc_law (fun vs H Q E h => ?_) (fun cdv A outer s H vs Q E hg hr h => ?_)
  · obtain ⟨a, ns, rfl, _⟩ := h
    rfl
  obtain ⟨a, ns, rfl, ha, hn, k⟩ := h
  refine ⟨_, (pss_cons (ps_for PassesOwn.never rfl (pi_range1 (by rfl) T.n_range (pa_cons (pe_callB (call_max2 rfl) (by rfl) T.n_max (by decide +kernel) (pa_cons pe_int (pa_cons (pe_callB (call_min2 rfl) (by rfl) T.n_min (by decide +kernel) (pa_cons pe_int (pa_cons (pe_callB call_len_seq (by rfl) T.n_len (by decide +kernel) (pa_cons (pv 0) pa_nil)) pa_nil))) pa_nil))) pa_nil)) (pg_name (i := 1) sc_law.nd rfl (Or.inl rfl))
      (pss_one (ps_if (pt_not (pt_val (pe_cG (ok_l_right T) T.d_l_right.b takes0 hg (hr.mono (by decide)) T.d_l_right.m T.d_l_right.F.kp (pa_cons (pe_cG (ok_l_box T) T.d_l_box.b takes0 hg (hr.mono (by decide)) T.d_l_box.m T.d_l_box.F.kp (pa_cons (pe_cG (ok_l_cell T) T.d_l_cell.b takes0 hg (hr.mono (by decide)) T.d_l_cell.m T.d_l_cell.F.kp (pa_cons (pv 0) (pa_cons (pv 1) pa_nil))) pa_nil)) pa_nil))))
        (pss_one (ps_ret pe_bl))
        pss_nil)))
    (pss_one (ps_ret pe_bl))), ?_⟩
  walk_at "rd"
  have lo : ∀ x : Int, 0 ≤ (if (if x < 6 then x else 6) > 2 then (if x < 6 then x else 6) else 2) ∧ (if (if x < 6 then x else 6) > 2 then (if x < 6 then x else 6) else 2) ≤ 6 := fun x => by
    split <;> split <;> omega
  have lo1 := lo ((ns.map V.int).length : Int)
  refine ⟨_, rfl, _, rfl, _, .inl ha, _, _, rfl, _, _, rfl, _, rfl, Int.le_trans (by decide) lo1.1, Int.lt_of_le_of_lt lo1.2 (by decide), ?_⟩
  refine for_range (fun i σ H' => Same H H' ∧ ∃ x, σ = [some (.ref a), x]) ⟨Same.refl H, _, rfl⟩ ?_ ?_
  · rintro i σ H1 hi ⟨S, x, rfl⟩
    have hi' : i < 6 := by
      have h2 := lo1.2
      have h1 := lo1.1
      have h3 : i < (if (if ((ns.map V.int).length : Int) < 6 then ((ns.map V.int).length : Int) else 6) > 2 then (if ((ns.map V.int).length : Int) < 6 then ((ns.map V.int).length : Int) else 6) else 2).toNat := hi
      omega
    walk_at "rd"
    refine ⟨a, ns, _, rfl, L2.Same.seq S ha, by omega, by omega, fun c H2 S2 => ?_⟩
    refine ⟨c, rfl, fun p H3 hp S3 b3 => ?_⟩
    refine ⟨p, rfl, b3, fun H4 e4 => ⟨_, rfl, ?_⟩⟩
    simp only [Bool.true_eq_false, ↓reduceIte]
    refine ⟨fun y o hy => ?_, _, rfl⟩
    have y2 := S2 _ _ (S _ _ hy)
    exact e4 _ _ (ne_of_none y2 hp) (S3 _ _ y2)
  · rintro σ H1 ⟨S, x, rfl⟩
    walk_at "rd"
    exact k _
end
end K04

namespace K04
open PySem PySem.W PyProof.Rows L2 Nv
theorem all_mk {P : Program} {w : World} {K : PySem.W.Frag} {h : Heap} {mg : Str → Option Value} {fa : Addr} (X : K.In h) (G : h.Ns mainGlobals mg) (hfa : mg "law" = some (.ref fa))
    {C_Disk : Addr} {C_InvalidSigns : Addr} {C_InvalidCount : Addr} {C_UnsaidError : Addr} {oc_x_InvalidSigns : Value} {kV_x_InvalidSigns : Value} {dc_x_InvalidSigns : Value} {pm_x_InvalidSigns : Value} {cd_x_InvalidSigns : Value} {ct_x_InvalidSigns : Value} {od_x_InvalidSigns an_x_InvalidSigns : Option Addr} {sl_x_InvalidSigns : Array (Option Value)} {f_x_InvalidSigns : Addr} {oc_x_InvalidCount : Value} {kV_x_InvalidCount : Value} {dc_x_InvalidCount : Value} {pm_x_InvalidCount : Value} {cd_x_InvalidCount : Value} {ct_x_InvalidCount : Value} {od_x_InvalidCount an_x_InvalidCount : Option Addr} {sl_x_InvalidCount : Array (Option Value)} {f_x_InvalidCount : Addr} {nm_e_InvalidSigns q_e_InvalidSigns : Str} {N_e_InvalidSigns : Addr} {bs_e_InvalidSigns bm_e_InvalidSigns sub_e_InvalidSigns : List Value} {sn_e_InvalidSigns : List Str} {ab_e_InvalidSigns : Bool} {col_e_InvalidSigns : Option Bool} {dd_e_InvalidSigns : Option Addr} {k0_e_InvalidSigns k1_e_InvalidSigns k2_e_InvalidSigns k3_e_InvalidSigns k5_e_InvalidSigns : Option Value} {nm_e_InvalidCount q_e_InvalidCount : Str} {N_e_InvalidCount : Addr} {bs_e_InvalidCount bm_e_InvalidCount sub_e_InvalidCount : List Value} {sn_e_InvalidCount : List Str} {ab_e_InvalidCount : Bool} {col_e_InvalidCount : Option Bool} {dd_e_InvalidCount : Option Addr} {k0_e_InvalidCount k1_e_InvalidCount k2_e_InvalidCount k3_e_InvalidCount k5_e_InvalidCount : Option Value} {p_p_text : Addr} {re_p_text : List Value} {oc_p_text : Value} {kV_p_text : Value} {dc_p_text : Value} {pm_p_text : Value} {cd_p_text : Value} {ct_p_text : Value} {od_p_text an_p_text : Option Addr} {sl_p_text : Array (Option Value)} {f_p_text : Addr} {p_p_synced : Addr} {re_p_synced : List Value} {oc_p_synced : Value} {kV_p_synced : Value} {dc_p_synced : Value} {pm_p_synced : Value} {cd_p_synced : Value} {ct_p_synced : Value} {od_p_synced an_p_synced : Option Addr} {sl_p_synced : Array (Option Value)} {f_p_synced : Addr} {oc_d_is_int : Value} {kV_d_is_int : Value} {dc_d_is_int : Value} {pm_d_is_int : Value} {cd_d_is_int : Value} {ct_d_is_int : Value} {od_d_is_int an_d_is_int : Option Addr} {sl_d_is_int : Array (Option Value)} {f_d_is_int : Addr} {oc_d_is_count : Value} {kV_d_is_count : Value} {dc_d_is_count : Value} {pm_d_is_count : Value} {cd_d_is_count : Value} {ct_d_is_count : Value} {od_d_is_count an_d_is_count : Option Addr} {sl_d_is_count : Array (Option Value)} {f_d_is_count : Addr} {oc_d_is_signs : Value} {kV_d_is_signs : Value} {dc_d_is_signs : Value} {pm_d_is_signs : Value} {cd_d_is_signs : Value} {ct_d_is_signs : Value} {od_d_is_signs an_d_is_signs : Option Addr} {sl_d_is_signs : Array (Option Value)} {f_d_is_signs : Addr} {oc_d_Disk_init : Value} {kV_d_Disk_init : Value} {dc_d_Disk_init : Value} {pm_d_Disk_init : Value} {cd_d_Disk_init : Value} {ct_d_Disk_init : Value} {od_d_Disk_init an_d_Disk_init : Option Addr} {sl_d_Disk_init : Array (Option Value)} {f_d_Disk_init : Addr} {oc_d_Disk_put : Value} {kV_d_Disk_put : Value} {dc_d_Disk_put : Value} {pm_d_Disk_put : Value} {cd_d_Disk_put : Value} {ct_d_Disk_put : Value} {od_d_Disk_put an_d_Disk_put : Option Addr} {sl_d_Disk_put : Array (Option Value)} {f_d_Disk_put : Addr} {oc_d_Disk_sync : Value} {kV_d_Disk_sync : Value} {dc_d_Disk_sync : Value} {pm_d_Disk_sync : Value} {cd_d_Disk_sync : Value} {ct_d_Disk_sync : Value} {od_d_Disk_sync an_d_Disk_sync : Option Addr} {sl_d_Disk_sync : Array (Option Value)} {f_d_Disk_sync : Addr} {oc_d_Disk_trim : Value} {kV_d_Disk_trim : Value} {dc_d_Disk_trim : Value} {pm_d_Disk_trim : Value} {cd_d_Disk_trim : Value} {ct_d_Disk_trim : Value} {od_d_Disk_trim an_d_Disk_trim : Option Addr} {sl_d_Disk_trim : Array (Option Value)} {f_d_Disk_trim : Addr} {oc_d_Disk_fall : Value} {kV_d_Disk_fall : Value} {dc_d_Disk_fall : Value} {pm_d_Disk_fall : Value} {cd_d_Disk_fall : Value} {ct_d_Disk_fall : Value} {od_d_Disk_fall an_d_Disk_fall : Option Addr} {sl_d_Disk_fall : Array (Option Value)} {f_d_Disk_fall : Addr} {oc_d_Disk_lose : Value} {kV_d_Disk_lose : Value} {dc_d_Disk_lose : Value} {pm_d_Disk_lose : Value} {cd_d_Disk_lose : Value} {ct_d_Disk_lose : Value} {od_d_Disk_lose an_d_Disk_lose : Option Addr} {sl_d_Disk_lose : Array (Option Value)} {f_d_Disk_lose : Addr} {oc_d_Disk__leave : Value} {kV_d_Disk__leave : Value} {dc_d_Disk__leave : Value} {pm_d_Disk__leave : Value} {cd_d_Disk__leave : Value} {ct_d_Disk__leave : Value} {od_d_Disk__leave an_d_Disk__leave : Option Addr} {sl_d_Disk__leave : Array (Option Value)} {f_d_Disk__leave : Addr} {oc_d_l_cell : Value} {kV_d_l_cell : Value} {dc_d_l_cell : Value} {pm_d_l_cell : Value} {cd_d_l_cell : Value} {ct_d_l_cell : Value} {od_d_l_cell an_d_l_cell : Option Addr} {sl_d_l_cell : Array (Option Value)} {f_d_l_cell : Addr} {oc_d_l_box : Value} {kV_d_l_box : Value} {dc_d_l_box : Value} {pm_d_l_box : Value} {cd_d_l_box : Value} {ct_d_l_box : Value} {od_d_l_box an_d_l_box : Option Addr} {sl_d_l_box : Array (Option Value)} {f_d_l_box : Addr} {oc_d_l_take : Value} {kV_d_l_take : Value} {dc_d_l_take : Value} {pm_d_l_take : Value} {cd_d_l_take : Value} {ct_d_l_take : Value} {od_d_l_take an_d_l_take : Option Addr} {sl_d_l_take : Array (Option Value)} {f_d_l_take : Addr} {oc_d_l_signs : Value} {kV_d_l_signs : Value} {dc_d_l_signs : Value} {pm_d_l_signs : Value} {cd_d_l_signs : Value} {ct_d_l_signs : Value} {od_d_l_signs an_d_l_signs : Option Addr} {sl_d_l_signs : Array (Option Value)} {f_d_l_signs : Addr} {oc_d_l_odd_signs : Value} {kV_d_l_odd_signs : Value} {dc_d_l_odd_signs : Value} {pm_d_l_odd_signs : Value} {cd_d_l_odd_signs : Value} {ct_d_l_odd_signs : Value} {od_d_l_odd_signs an_d_l_odd_signs : Option Addr} {sl_d_l_odd_signs : Array (Option Value)} {f_d_l_odd_signs : Addr} {oc_d_l_odd_count : Value} {kV_d_l_odd_count : Value} {dc_d_l_odd_count : Value} {pm_d_l_odd_count : Value} {cd_d_l_odd_count : Value} {ct_d_l_odd_count : Value} {od_d_l_odd_count an_d_l_odd_count : Option Addr} {sl_d_l_odd_count : Array (Option Value)} {f_d_l_odd_count : Addr} {oc_d_l_deed : Value} {kV_d_l_deed : Value} {dc_d_l_deed : Value} {pm_d_l_deed : Value} {cd_d_l_deed : Value} {ct_d_l_deed : Value} {od_d_l_deed an_d_l_deed : Option Addr} {sl_d_l_deed : Array (Option Value)} {f_d_l_deed : Addr} {oc_d_l_is_count : Value} {kV_d_l_is_count : Value} {dc_d_l_is_count : Value} {pm_d_l_is_count : Value} {cd_d_l_is_count : Value} {ct_d_l_is_count : Value} {od_d_l_is_count an_d_l_is_count : Option Addr} {sl_d_l_is_count : Array (Option Value)} {f_d_l_is_count : Addr} {oc_d_l_is_signs : Value} {kV_d_l_is_signs : Value} {dc_d_l_is_signs : Value} {pm_d_l_is_signs : Value} {cd_d_l_is_signs : Value} {ct_d_l_is_signs : Value} {od_d_l_is_signs an_d_l_is_signs : Option Addr} {sl_d_l_is_signs : Array (Option Value)} {f_d_l_is_signs : Addr} {oc_d_l_left : Value} {kV_d_l_left : Value} {dc_d_l_left : Value} {pm_d_l_left : Value} {cd_d_l_left : Value} {ct_d_l_left : Value} {od_d_l_left an_d_l_left : Option Addr} {sl_d_l_left : Array (Option Value)} {f_d_l_left : Addr} {oc_d_l_due : Value} {kV_d_l_due : Value} {dc_d_l_due : Value} {pm_d_l_due : Value} {cd_d_l_due : Value} {ct_d_l_due : Value} {od_d_l_due an_d_l_due : Option Addr} {sl_d_l_due : Array (Option Value)} {f_d_l_due : Addr} {oc_d_l_did : Value} {kV_d_l_did : Value} {dc_d_l_did : Value} {pm_d_l_did : Value} {cd_d_l_did : Value} {ct_d_l_did : Value} {od_d_l_did an_d_l_did : Option Addr} {sl_d_l_did : Array (Option Value)} {f_d_l_did : Addr} {oc_d_l_is : Value} {kV_d_l_is : Value} {dc_d_l_is : Value} {pm_d_l_is : Value} {cd_d_l_is : Value} {ct_d_l_is : Value} {od_d_l_is an_d_l_is : Option Addr} {sl_d_l_is : Array (Option Value)} {f_d_l_is : Addr} {oc_d_l_done : Value} {kV_d_l_done : Value} {dc_d_l_done : Value} {pm_d_l_done : Value} {cd_d_l_done : Value} {ct_d_l_done : Value} {od_d_l_done an_d_l_done : Option Addr} {sl_d_l_done : Array (Option Value)} {f_d_l_done : Addr} {oc_d_l_right : Value} {kV_d_l_right : Value} {dc_d_l_right : Value} {pm_d_l_right : Value} {cd_d_l_right : Value} {ct_d_l_right : Value} {od_d_l_right an_d_l_right : Option Addr} {sl_d_l_right : Array (Option Value)} {f_d_l_right : Addr} {oc_d_law : Value} {kV_d_law : Value} {dc_d_law : Value} {pm_d_law : Value} {cd_d_law : Value} {ct_d_law : Value} {od_d_law an_d_law : Option Addr} {sl_d_law : Array (Option Value)} {f_d_law : Addr}
    (g_e_InvalidSigns : PySem.W.nsIn K mainGlobals "InvalidSigns" = some (some (.ref C_InvalidSigns)))
    (g_e_InvalidCount : PySem.W.nsIn K mainGlobals "InvalidCount" = some (some (.ref C_InvalidCount)))
    (g_m_UnsaidError : PySem.W.nsIn K mainGlobals "UnsaidError" = some (some (.ref C_UnsaidError)))
    (g_m_Disk : PySem.W.nsIn K mainGlobals "Disk" = some (some (.ref C_Disk)))
    (a_x_InvalidSigns : PySem.W.findIn K (.ref C_InvalidSigns) "__init__" = some (some (.ref f_x_InvalidSigns)))
    (a_x_InvalidCount : PySem.W.findIn K (.ref C_InvalidCount) "__init__" = some (some (.ref f_x_InvalidCount)))
    (a_p_text : PySem.W.findIn K (.ref C_Disk) "text" = some (some (.ref p_p_text)))
    (a_p_synced : PySem.W.findIn K (.ref C_Disk) "synced" = some (some (.ref p_p_synced)))
    (a_d_is_int : PySem.W.nsIn K mainGlobals "is_int" = some (some (.ref f_d_is_int)))
    (a_d_is_count : PySem.W.nsIn K mainGlobals "is_count" = some (some (.ref f_d_is_count)))
    (a_d_is_signs : PySem.W.nsIn K mainGlobals "is_signs" = some (some (.ref f_d_is_signs)))
    (a_d_Disk_init : PySem.W.findIn K (.ref C_Disk) "__init__" = some (some (.ref f_d_Disk_init)))
    (a_d_Disk_put : PySem.W.findIn K (.ref C_Disk) "put" = some (some (.ref f_d_Disk_put)))
    (a_d_Disk_sync : PySem.W.findIn K (.ref C_Disk) "sync" = some (some (.ref f_d_Disk_sync)))
    (a_d_Disk_trim : PySem.W.findIn K (.ref C_Disk) "trim" = some (some (.ref f_d_Disk_trim)))
    (a_d_Disk_fall : PySem.W.findIn K (.ref C_Disk) "fall" = some (some (.ref f_d_Disk_fall)))
    (a_d_Disk_lose : PySem.W.findIn K (.ref C_Disk) "lose" = some (some (.ref f_d_Disk_lose)))
    (a_d_Disk__leave : PySem.W.findIn K (.ref C_Disk) "_leave" = some (some (.ref f_d_Disk__leave)))
    (a_d_l_cell : PySem.W.nsIn K mainGlobals "_law_cell" = some (some (.ref f_d_l_cell)))
    (a_d_l_box : PySem.W.nsIn K mainGlobals "_law_box" = some (some (.ref f_d_l_box)))
    (a_d_l_take : PySem.W.nsIn K mainGlobals "_law_take" = some (some (.ref f_d_l_take)))
    (a_d_l_signs : PySem.W.nsIn K mainGlobals "_law_signs" = some (some (.ref f_d_l_signs)))
    (a_d_l_odd_signs : PySem.W.nsIn K mainGlobals "_law_odd_signs" = some (some (.ref f_d_l_odd_signs)))
    (a_d_l_odd_count : PySem.W.nsIn K mainGlobals "_law_odd_count" = some (some (.ref f_d_l_odd_count)))
    (a_d_l_deed : PySem.W.nsIn K mainGlobals "_law_deed" = some (some (.ref f_d_l_deed)))
    (a_d_l_is_count : PySem.W.nsIn K mainGlobals "_law_is_count" = some (some (.ref f_d_l_is_count)))
    (a_d_l_is_signs : PySem.W.nsIn K mainGlobals "_law_is_signs" = some (some (.ref f_d_l_is_signs)))
    (a_d_l_left : PySem.W.nsIn K mainGlobals "_law_left" = some (some (.ref f_d_l_left)))
    (a_d_l_due : PySem.W.nsIn K mainGlobals "_law_due" = some (some (.ref f_d_l_due)))
    (a_d_l_did : PySem.W.nsIn K mainGlobals "_law_did" = some (some (.ref f_d_l_did)))
    (a_d_l_is : PySem.W.nsIn K mainGlobals "_law_is" = some (some (.ref f_d_l_is)))
    (a_d_l_done : PySem.W.nsIn K mainGlobals "_law_done" = some (some (.ref f_d_l_done)))
    (a_d_l_right : PySem.W.nsIn K mainGlobals "_law_right" = some (some (.ref f_d_l_right)))
    (a_d_law : PySem.W.nsIn K mainGlobals "law" = some (some (.ref f_d_law)))
    (rr_p_text : PySem.W.recIn K p_p_text "property" = some (.ref f_p_text :: re_p_text))
    (rr_p_synced : PySem.W.recIn K p_p_synced "property" = some (.ref f_p_synced :: re_p_synced))
    (l_x_InvalidSigns : K.lookup f_x_InvalidSigns = some ⟨oc_x_InvalidSigns, od_x_InvalidSigns, .func (PySem.W.fnOf "__init__" "InvalidSigns.__init__" (defArgs s_InvalidSigns_init) (defBody s_InvalidSigns_init) (defScope s_InvalidSigns_init) .none kV_x_InvalidSigns dc_x_InvalidSigns pm_x_InvalidSigns an_x_InvalidSigns cd_x_InvalidSigns ct_x_InvalidSigns), sl_x_InvalidSigns⟩)
    (l_x_InvalidCount : K.lookup f_x_InvalidCount = some ⟨oc_x_InvalidCount, od_x_InvalidCount, .func (PySem.W.fnOf "__init__" "InvalidCount.__init__" (defArgs s_InvalidCount_init) (defBody s_InvalidCount_init) (defScope s_InvalidCount_init) .none kV_x_InvalidCount dc_x_InvalidCount pm_x_InvalidCount an_x_InvalidCount cd_x_InvalidCount ct_x_InvalidCount), sl_x_InvalidCount⟩)
    (l_p_text : K.lookup f_p_text = some ⟨oc_p_text, od_p_text, .func (PySem.W.fnOf "text" "Disk.text" (defArgs s_Disk_text) (defBody s_Disk_text) (defScope s_Disk_text) .none kV_p_text dc_p_text pm_p_text an_p_text cd_p_text ct_p_text), sl_p_text⟩)
    (l_p_synced : K.lookup f_p_synced = some ⟨oc_p_synced, od_p_synced, .func (PySem.W.fnOf "synced" "Disk.synced" (defArgs s_Disk_synced) (defBody s_Disk_synced) (defScope s_Disk_synced) .none kV_p_synced dc_p_synced pm_p_synced an_p_synced cd_p_synced ct_p_synced), sl_p_synced⟩)
    (l_d_is_int : K.lookup f_d_is_int = some ⟨oc_d_is_int, od_d_is_int, .func (PySem.W.fnOf "is_int" "is_int" (defArgs s_is_int) (defBody s_is_int) (defScope s_is_int) .none kV_d_is_int dc_d_is_int pm_d_is_int an_d_is_int cd_d_is_int ct_d_is_int), sl_d_is_int⟩)
    (l_d_is_count : K.lookup f_d_is_count = some ⟨oc_d_is_count, od_d_is_count, .func (PySem.W.fnOf "is_count" "is_count" (defArgs s_is_count) (defBody s_is_count) (defScope s_is_count) .none kV_d_is_count dc_d_is_count pm_d_is_count an_d_is_count cd_d_is_count ct_d_is_count), sl_d_is_count⟩)
    (l_d_is_signs : K.lookup f_d_is_signs = some ⟨oc_d_is_signs, od_d_is_signs, .func (PySem.W.fnOf "is_signs" "is_signs" (defArgs s_is_signs) (defBody s_is_signs) (defScope s_is_signs) .none kV_d_is_signs dc_d_is_signs pm_d_is_signs an_d_is_signs cd_d_is_signs ct_d_is_signs), sl_d_is_signs⟩)
    (l_d_Disk_init : K.lookup f_d_Disk_init = some ⟨oc_d_Disk_init, od_d_Disk_init, .func (PySem.W.fnOf "__init__" "Disk.__init__" (defArgs s_Disk_init) (defBody s_Disk_init) (defScope s_Disk_init) .none kV_d_Disk_init dc_d_Disk_init pm_d_Disk_init an_d_Disk_init cd_d_Disk_init ct_d_Disk_init), sl_d_Disk_init⟩)
    (l_d_Disk_put : K.lookup f_d_Disk_put = some ⟨oc_d_Disk_put, od_d_Disk_put, .func (PySem.W.fnOf "put" "Disk.put" (defArgs s_Disk_put) (defBody s_Disk_put) (defScope s_Disk_put) .none kV_d_Disk_put dc_d_Disk_put pm_d_Disk_put an_d_Disk_put cd_d_Disk_put ct_d_Disk_put), sl_d_Disk_put⟩)
    (l_d_Disk_sync : K.lookup f_d_Disk_sync = some ⟨oc_d_Disk_sync, od_d_Disk_sync, .func (PySem.W.fnOf "sync" "Disk.sync" (defArgs s_Disk_sync) (defBody s_Disk_sync) (defScope s_Disk_sync) .none kV_d_Disk_sync dc_d_Disk_sync pm_d_Disk_sync an_d_Disk_sync cd_d_Disk_sync ct_d_Disk_sync), sl_d_Disk_sync⟩)
    (l_d_Disk_trim : K.lookup f_d_Disk_trim = some ⟨oc_d_Disk_trim, od_d_Disk_trim, .func (PySem.W.fnOf "trim" "Disk.trim" (defArgs s_Disk_trim) (defBody s_Disk_trim) (defScope s_Disk_trim) .none kV_d_Disk_trim dc_d_Disk_trim pm_d_Disk_trim an_d_Disk_trim cd_d_Disk_trim ct_d_Disk_trim), sl_d_Disk_trim⟩)
    (l_d_Disk_fall : K.lookup f_d_Disk_fall = some ⟨oc_d_Disk_fall, od_d_Disk_fall, .func (PySem.W.fnOf "fall" "Disk.fall" (defArgs s_Disk_fall) (defBody s_Disk_fall) (defScope s_Disk_fall) .none kV_d_Disk_fall dc_d_Disk_fall pm_d_Disk_fall an_d_Disk_fall cd_d_Disk_fall ct_d_Disk_fall), sl_d_Disk_fall⟩)
    (l_d_Disk_lose : K.lookup f_d_Disk_lose = some ⟨oc_d_Disk_lose, od_d_Disk_lose, .func (PySem.W.fnOf "lose" "Disk.lose" (defArgs s_Disk_lose) (defBody s_Disk_lose) (defScope s_Disk_lose) .none kV_d_Disk_lose dc_d_Disk_lose pm_d_Disk_lose an_d_Disk_lose cd_d_Disk_lose ct_d_Disk_lose), sl_d_Disk_lose⟩)
    (l_d_Disk__leave : K.lookup f_d_Disk__leave = some ⟨oc_d_Disk__leave, od_d_Disk__leave, .func (PySem.W.fnOf "_leave" "Disk._leave" (defArgs s_Disk__leave) (defBody s_Disk__leave) (defScope s_Disk__leave) .none kV_d_Disk__leave dc_d_Disk__leave pm_d_Disk__leave an_d_Disk__leave cd_d_Disk__leave ct_d_Disk__leave), sl_d_Disk__leave⟩)
    (l_d_l_cell : K.lookup f_d_l_cell = some ⟨oc_d_l_cell, od_d_l_cell, .func (PySem.W.fnOf "_law_cell" "_law_cell" (defArgs s_l_cell) (defBody s_l_cell) (defScope s_l_cell) .none kV_d_l_cell dc_d_l_cell pm_d_l_cell an_d_l_cell cd_d_l_cell ct_d_l_cell), sl_d_l_cell⟩)
    (l_d_l_box : K.lookup f_d_l_box = some ⟨oc_d_l_box, od_d_l_box, .func (PySem.W.fnOf "_law_box" "_law_box" (defArgs s_l_box) (defBody s_l_box) (defScope s_l_box) .none kV_d_l_box dc_d_l_box pm_d_l_box an_d_l_box cd_d_l_box ct_d_l_box), sl_d_l_box⟩)
    (l_d_l_take : K.lookup f_d_l_take = some ⟨oc_d_l_take, od_d_l_take, .func (PySem.W.fnOf "_law_take" "_law_take" (defArgs s_l_take) (defBody s_l_take) (defScope s_l_take) .none kV_d_l_take dc_d_l_take pm_d_l_take an_d_l_take cd_d_l_take ct_d_l_take), sl_d_l_take⟩)
    (l_d_l_signs : K.lookup f_d_l_signs = some ⟨oc_d_l_signs, od_d_l_signs, .func (PySem.W.fnOf "_law_signs" "_law_signs" (defArgs s_l_signs) (defBody s_l_signs) (defScope s_l_signs) .none kV_d_l_signs dc_d_l_signs pm_d_l_signs an_d_l_signs cd_d_l_signs ct_d_l_signs), sl_d_l_signs⟩)
    (l_d_l_odd_signs : K.lookup f_d_l_odd_signs = some ⟨oc_d_l_odd_signs, od_d_l_odd_signs, .func (PySem.W.fnOf "_law_odd_signs" "_law_odd_signs" (defArgs s_l_odd_signs) (defBody s_l_odd_signs) (defScope s_l_odd_signs) .none kV_d_l_odd_signs dc_d_l_odd_signs pm_d_l_odd_signs an_d_l_odd_signs cd_d_l_odd_signs ct_d_l_odd_signs), sl_d_l_odd_signs⟩)
    (l_d_l_odd_count : K.lookup f_d_l_odd_count = some ⟨oc_d_l_odd_count, od_d_l_odd_count, .func (PySem.W.fnOf "_law_odd_count" "_law_odd_count" (defArgs s_l_odd_count) (defBody s_l_odd_count) (defScope s_l_odd_count) .none kV_d_l_odd_count dc_d_l_odd_count pm_d_l_odd_count an_d_l_odd_count cd_d_l_odd_count ct_d_l_odd_count), sl_d_l_odd_count⟩)
    (l_d_l_deed : K.lookup f_d_l_deed = some ⟨oc_d_l_deed, od_d_l_deed, .func (PySem.W.fnOf "_law_deed" "_law_deed" (defArgs s_l_deed) (defBody s_l_deed) (defScope s_l_deed) .none kV_d_l_deed dc_d_l_deed pm_d_l_deed an_d_l_deed cd_d_l_deed ct_d_l_deed), sl_d_l_deed⟩)
    (l_d_l_is_count : K.lookup f_d_l_is_count = some ⟨oc_d_l_is_count, od_d_l_is_count, .func (PySem.W.fnOf "_law_is_count" "_law_is_count" (defArgs s_l_is_count) (defBody s_l_is_count) (defScope s_l_is_count) .none kV_d_l_is_count dc_d_l_is_count pm_d_l_is_count an_d_l_is_count cd_d_l_is_count ct_d_l_is_count), sl_d_l_is_count⟩)
    (l_d_l_is_signs : K.lookup f_d_l_is_signs = some ⟨oc_d_l_is_signs, od_d_l_is_signs, .func (PySem.W.fnOf "_law_is_signs" "_law_is_signs" (defArgs s_l_is_signs) (defBody s_l_is_signs) (defScope s_l_is_signs) .none kV_d_l_is_signs dc_d_l_is_signs pm_d_l_is_signs an_d_l_is_signs cd_d_l_is_signs ct_d_l_is_signs), sl_d_l_is_signs⟩)
    (l_d_l_left : K.lookup f_d_l_left = some ⟨oc_d_l_left, od_d_l_left, .func (PySem.W.fnOf "_law_left" "_law_left" (defArgs s_l_left) (defBody s_l_left) (defScope s_l_left) .none kV_d_l_left dc_d_l_left pm_d_l_left an_d_l_left cd_d_l_left ct_d_l_left), sl_d_l_left⟩)
    (l_d_l_due : K.lookup f_d_l_due = some ⟨oc_d_l_due, od_d_l_due, .func (PySem.W.fnOf "_law_due" "_law_due" (defArgs s_l_due) (defBody s_l_due) (defScope s_l_due) .none kV_d_l_due dc_d_l_due pm_d_l_due an_d_l_due cd_d_l_due ct_d_l_due), sl_d_l_due⟩)
    (l_d_l_did : K.lookup f_d_l_did = some ⟨oc_d_l_did, od_d_l_did, .func (PySem.W.fnOf "_law_did" "_law_did" (defArgs s_l_did) (defBody s_l_did) (defScope s_l_did) .none kV_d_l_did dc_d_l_did pm_d_l_did an_d_l_did cd_d_l_did ct_d_l_did), sl_d_l_did⟩)
    (l_d_l_is : K.lookup f_d_l_is = some ⟨oc_d_l_is, od_d_l_is, .func (PySem.W.fnOf "_law_is" "_law_is" (defArgs s_l_is) (defBody s_l_is) (defScope s_l_is) .none kV_d_l_is dc_d_l_is pm_d_l_is an_d_l_is cd_d_l_is ct_d_l_is), sl_d_l_is⟩)
    (l_d_l_done : K.lookup f_d_l_done = some ⟨oc_d_l_done, od_d_l_done, .func (PySem.W.fnOf "_law_done" "_law_done" (defArgs s_l_done) (defBody s_l_done) (defScope s_l_done) .none kV_d_l_done dc_d_l_done pm_d_l_done an_d_l_done cd_d_l_done ct_d_l_done), sl_d_l_done⟩)
    (l_d_l_right : K.lookup f_d_l_right = some ⟨oc_d_l_right, od_d_l_right, .func (PySem.W.fnOf "_law_right" "_law_right" (defArgs s_l_right) (defBody s_l_right) (defScope s_l_right) .none kV_d_l_right dc_d_l_right pm_d_l_right an_d_l_right cd_d_l_right ct_d_l_right), sl_d_l_right⟩)
    (l_d_law : K.lookup f_d_law = some ⟨oc_d_law, od_d_law, .func (PySem.W.fnOf "law" "law" (defArgs s_law) (defBody s_law) (defScope s_law) .none kV_d_law dc_d_law pm_d_law an_d_law cd_d_law ct_d_law), sl_d_law⟩)
    (xl_e_InvalidSigns : K.lookup C_InvalidSigns = some (excClassObj nm_e_InvalidSigns q_e_InvalidSigns C_InvalidSigns N_e_InvalidSigns bs_e_InvalidSigns bm_e_InvalidSigns true sn_e_InvalidSigns sub_e_InvalidSigns ab_e_InvalidSigns col_e_InvalidSigns dd_e_InvalidSigns k0_e_InvalidSigns k1_e_InvalidSigns k2_e_InvalidSigns k3_e_InvalidSigns k5_e_InvalidSigns "ValueError.__new__"))
    (xl_e_InvalidCount : K.lookup C_InvalidCount = some (excClassObj nm_e_InvalidCount q_e_InvalidCount C_InvalidCount N_e_InvalidCount bs_e_InvalidCount bm_e_InvalidCount true sn_e_InvalidCount sub_e_InvalidCount ab_e_InvalidCount col_e_InvalidCount dd_e_InvalidCount k0_e_InvalidCount k1_e_InvalidCount k2_e_InvalidCount k3_e_InvalidCount k5_e_InvalidCount "ValueError.__new__"))
    (c_x_InvalidSigns : PySem.W.codeIn K cd_x_InvalidSigns "InvalidSigns.__init__" = true)
    (kp_x_InvalidSigns : PySem.W.keepIn K (.ref f_x_InvalidSigns) = true)
    (c_x_InvalidCount : PySem.W.codeIn K cd_x_InvalidCount "InvalidCount.__init__" = true)
    (kp_x_InvalidCount : PySem.W.keepIn K (.ref f_x_InvalidCount) = true)
    (rv_e_InvalidSigns : PySem.HandSPX.refsVE bm_e_InvalidSigns = true)
    (sa_e_InvalidSigns : PySem.W.findIn K (.ref C_InvalidSigns) "__setattr__" = some (some (.builtin "object.__setattr__")))
    (eb_C_InvalidSigns : PySem.W.subIn K (.ref C_InvalidSigns) (.type "BaseException") = some true)
    (ty_C_InvalidSigns : PySem.W.typeIn K (.ref C_InvalidSigns) = some (.type "type"))
    (kc_C_InvalidSigns : PySem.W.keepIn K (.ref C_InvalidSigns) = true)
    (ti_e_InvalidSigns : PySem.W.typeIn K (.ref f_x_InvalidSigns) = some (.type "function"))
    (nf_e_InvalidSigns : PySem.W.findIn K (.ref C_InvalidSigns) "given" = some none)
    (ga_e_InvalidSigns : PySem.W.findIn K (.ref C_InvalidSigns) "__getattribute__" = some (some (.builtin "BaseException.__getattribute__")))
    (gt_e_InvalidSigns : PySem.W.findIn K (.ref C_InvalidSigns) "__getattr__" = some none)
    (hd_C_InvalidSigns : PySem.W.hasDictIn K C_InvalidSigns = true)
    (ncl_e_InvalidSigns : PySem.W.findIn K (.ref C_InvalidSigns) "__class__" = some (some (.builtin "object.__class__")))
    (nsp : PySem.W.specialIn K (.builtin "object.__class__") "__get__" = some (some (.builtin "getset_descriptor.__get__")))
    (ntk : PySem.W.takesIn K (.builtin "object.__class__") = some true)
    (nmo_e_InvalidSigns : PySem.W.mroIn K C_InvalidSigns (.type "object") = some true)
    (rv_e_InvalidCount : PySem.HandSPX.refsVE bm_e_InvalidCount = true)
    (sa_e_InvalidCount : PySem.W.findIn K (.ref C_InvalidCount) "__setattr__" = some (some (.builtin "object.__setattr__")))
    (eb_C_InvalidCount : PySem.W.subIn K (.ref C_InvalidCount) (.type "BaseException") = some true)
    (ty_C_InvalidCount : PySem.W.typeIn K (.ref C_InvalidCount) = some (.type "type"))
    (kc_C_InvalidCount : PySem.W.keepIn K (.ref C_InvalidCount) = true)
    (ti_e_InvalidCount : PySem.W.typeIn K (.ref f_x_InvalidCount) = some (.type "function"))
    (nf_e_InvalidCount : PySem.W.findIn K (.ref C_InvalidCount) "given" = some none)
    (ga_e_InvalidCount : PySem.W.findIn K (.ref C_InvalidCount) "__getattribute__" = some (some (.builtin "BaseException.__getattribute__")))
    (gt_e_InvalidCount : PySem.W.findIn K (.ref C_InvalidCount) "__getattr__" = some none)
    (hd_C_InvalidCount : PySem.W.hasDictIn K C_InvalidCount = true)
    (ncl_e_InvalidCount : PySem.W.findIn K (.ref C_InvalidCount) "__class__" = some (some (.builtin "object.__class__")))
    (nmo_e_InvalidCount : PySem.W.mroIn K C_InvalidCount (.type "object") = some true)
    (su_C_InvalidSigns_C_InvalidSigns : PySem.W.subIn K (.ref C_InvalidSigns) (.ref C_InvalidSigns) = some true)
    (su_C_InvalidCount_C_InvalidSigns : PySem.W.subIn K (.ref C_InvalidCount) (.ref C_InvalidSigns) = some false)
    (su_C_InvalidCount_C_InvalidCount : PySem.W.subIn K (.ref C_InvalidCount) (.ref C_InvalidCount) = some true)
    (su_C_InvalidSigns_C_UnsaidError : PySem.W.subIn K (.ref C_InvalidSigns) (.ref C_UnsaidError) = some true)
    (hd_C_UnsaidError : PySem.W.hasDictIn K C_UnsaidError = true)
    (ty_C_UnsaidError : PySem.W.typeIn K (.ref C_UnsaidError) = some (.type "type"))
    (su_C_InvalidCount_C_UnsaidError : PySem.W.subIn K (.ref C_InvalidCount) (.ref C_UnsaidError) = some true)
    (pg_C_Disk : PySem.W.plainGet K C_Disk Str.empty = true)
    (hd_C_Disk : PySem.W.hasDictIn K C_Disk = true)
    (po_C_Disk : PySem.W.plainOver K C_Disk = true)
    (sa_C_Disk : PySem.W.findIn K (.ref C_Disk) "__setattr__" = some (some (.builtin "object.__setattr__")))
    (h_na_text_C_Disk : PySem.W.findIn K (.ref C_Disk) "_text" = some none)
    (h_na_synced_C_Disk : PySem.W.findIn K (.ref C_Disk) "_synced" = some none)
    (gg_p_text : PySem.W.specialIn K (.ref p_p_text) "__get__" = some (some (.builtin "property.__get__")))
    (tt_p_text : PySem.W.takesIn K (.ref p_p_text) = some true)
    (c_p_text : PySem.W.codeIn K cd_p_text "Disk.text" = true)
    (kp_p_text : PySem.W.keepIn K (.ref f_p_text) = true)
    (gg_p_synced : PySem.W.specialIn K (.ref p_p_synced) "__get__" = some (some (.builtin "property.__get__")))
    (tt_p_synced : PySem.W.takesIn K (.ref p_p_synced) = some true)
    (c_p_synced : PySem.W.codeIn K cd_p_synced "Disk.synced" = true)
    (kp_p_synced : PySem.W.keepIn K (.ref f_p_synced) = true)
    (z_n_abs : PySem.W.nsIn K mainGlobals "abs" = some none)
    (z_n_bool : PySem.W.nsIn K mainGlobals "bool" = some none)
    (z_n_int : PySem.W.nsIn K mainGlobals "int" = some none)
    (z_n_isinstance : PySem.W.nsIn K mainGlobals "isinstance" = some none)
    (z_n_len : PySem.W.nsIn K mainGlobals "len" = some none)
    (z_n_list : PySem.W.nsIn K mainGlobals "list" = some none)
    (z_n_max : PySem.W.nsIn K mainGlobals "max" = some none)
    (z_n_min : PySem.W.nsIn K mainGlobals "min" = some none)
    (z_n_range : PySem.W.nsIn K mainGlobals "range" = some none)
    (z_n_repr : PySem.W.nsIn K mainGlobals "repr" = some none)
    (z_n_str : PySem.W.nsIn K mainGlobals "str" = some none)
    (z_n_sum : PySem.W.nsIn K mainGlobals "sum" = some none)
    (c_d_is_int : PySem.W.codeIn K cd_d_is_int "is_int" = true)
    (kp_d_is_int : PySem.W.keepIn K (.ref f_d_is_int) = true)
    (c_d_is_count : PySem.W.codeIn K cd_d_is_count "is_count" = true)
    (kp_d_is_count : PySem.W.keepIn K (.ref f_d_is_count) = true)
    (c_d_is_signs : PySem.W.codeIn K cd_d_is_signs "is_signs" = true)
    (kp_d_is_signs : PySem.W.keepIn K (.ref f_d_is_signs) = true)
    (c_d_Disk_init : PySem.W.codeIn K cd_d_Disk_init "Disk.__init__" = true)
    (kp_d_Disk_init : PySem.W.keepIn K (.ref f_d_Disk_init) = true)
    (mk_C_Disk : PySem.W.makesIn K C_Disk = true)
    (i_d_Disk_init : PySem.W.isFn K (.ref f_d_Disk_init) = true)
    (kc_C_Disk : PySem.W.keepIn K (.ref C_Disk) = true)
    (i_d_Disk_put : PySem.W.isFn K (.ref f_d_Disk_put) = true)
    (c_d_Disk_put : PySem.W.codeIn K cd_d_Disk_put "Disk.put" = true)
    (kp_d_Disk_put : PySem.W.keepIn K (.ref f_d_Disk_put) = true)
    (i_d_Disk_sync : PySem.W.isFn K (.ref f_d_Disk_sync) = true)
    (c_d_Disk_sync : PySem.W.codeIn K cd_d_Disk_sync "Disk.sync" = true)
    (kp_d_Disk_sync : PySem.W.keepIn K (.ref f_d_Disk_sync) = true)
    (i_d_Disk_trim : PySem.W.isFn K (.ref f_d_Disk_trim) = true)
    (c_d_Disk_trim : PySem.W.codeIn K cd_d_Disk_trim "Disk.trim" = true)
    (kp_d_Disk_trim : PySem.W.keepIn K (.ref f_d_Disk_trim) = true)
    (i_d_Disk_fall : PySem.W.isFn K (.ref f_d_Disk_fall) = true)
    (c_d_Disk_fall : PySem.W.codeIn K cd_d_Disk_fall "Disk.fall" = true)
    (kp_d_Disk_fall : PySem.W.keepIn K (.ref f_d_Disk_fall) = true)
    (i_d_Disk_lose : PySem.W.isFn K (.ref f_d_Disk_lose) = true)
    (c_d_Disk_lose : PySem.W.codeIn K cd_d_Disk_lose "Disk.lose" = true)
    (kp_d_Disk_lose : PySem.W.keepIn K (.ref f_d_Disk_lose) = true)
    (i_d_Disk__leave : PySem.W.isFn K (.ref f_d_Disk__leave) = true)
    (c_d_Disk__leave : PySem.W.codeIn K cd_d_Disk__leave "Disk._leave" = true)
    (kp_d_Disk__leave : PySem.W.keepIn K (.ref f_d_Disk__leave) = true)
    (c_d_l_cell : PySem.W.codeIn K cd_d_l_cell "_law_cell" = true)
    (kp_d_l_cell : PySem.W.keepIn K (.ref f_d_l_cell) = true)
    (c_d_l_box : PySem.W.codeIn K cd_d_l_box "_law_box" = true)
    (kp_d_l_box : PySem.W.keepIn K (.ref f_d_l_box) = true)
    (c_d_l_take : PySem.W.codeIn K cd_d_l_take "_law_take" = true)
    (kp_d_l_take : PySem.W.keepIn K (.ref f_d_l_take) = true)
    (c_d_l_signs : PySem.W.codeIn K cd_d_l_signs "_law_signs" = true)
    (kp_d_l_signs : PySem.W.keepIn K (.ref f_d_l_signs) = true)
    (c_d_l_odd_signs : PySem.W.codeIn K cd_d_l_odd_signs "_law_odd_signs" = true)
    (kp_d_l_odd_signs : PySem.W.keepIn K (.ref f_d_l_odd_signs) = true)
    (c_d_l_odd_count : PySem.W.codeIn K cd_d_l_odd_count "_law_odd_count" = true)
    (kp_d_l_odd_count : PySem.W.keepIn K (.ref f_d_l_odd_count) = true)
    (c_d_l_deed : PySem.W.codeIn K cd_d_l_deed "_law_deed" = true)
    (kp_d_l_deed : PySem.W.keepIn K (.ref f_d_l_deed) = true)
    (c_d_l_is_count : PySem.W.codeIn K cd_d_l_is_count "_law_is_count" = true)
    (kp_d_l_is_count : PySem.W.keepIn K (.ref f_d_l_is_count) = true)
    (c_d_l_is_signs : PySem.W.codeIn K cd_d_l_is_signs "_law_is_signs" = true)
    (kp_d_l_is_signs : PySem.W.keepIn K (.ref f_d_l_is_signs) = true)
    (c_d_l_left : PySem.W.codeIn K cd_d_l_left "_law_left" = true)
    (kp_d_l_left : PySem.W.keepIn K (.ref f_d_l_left) = true)
    (c_d_l_due : PySem.W.codeIn K cd_d_l_due "_law_due" = true)
    (kp_d_l_due : PySem.W.keepIn K (.ref f_d_l_due) = true)
    (c_d_l_did : PySem.W.codeIn K cd_d_l_did "_law_did" = true)
    (kp_d_l_did : PySem.W.keepIn K (.ref f_d_l_did) = true)
    (c_d_l_is : PySem.W.codeIn K cd_d_l_is "_law_is" = true)
    (kp_d_l_is : PySem.W.keepIn K (.ref f_d_l_is) = true)
    (c_d_l_done : PySem.W.codeIn K cd_d_l_done "_law_done" = true)
    (kp_d_l_done : PySem.W.keepIn K (.ref f_d_l_done) = true)
    (c_d_l_right : PySem.W.codeIn K cd_d_l_right "_law_right" = true)
    (kp_d_l_right : PySem.W.keepIn K (.ref f_d_l_right) = true)
    (c_d_law : PySem.W.codeIn K cd_d_law "law" = true)
    (kp_d_law : PySem.W.keepIn K (.ref f_d_law) = true) :
    ∃ fd : FuncData, (∀ (s : Shared) (v : Value), BindsTo s fd ⟨[v], []⟩ [("_law_script", v)]) ∧ ∀ base : Heap, K.In base → base.Ns mainGlobals mg → FnG P w K mg base 8 fa fd ["_law_script"] (spLaw K) := by
  have e := hfa.symm.trans (mg_of X G a_d_law)
  cases e
  have F_x_InvalidSigns := fun_mk (st := s_InvalidSigns_init) l_x_InvalidSigns c_x_InvalidSigns kp_x_InvalidSigns
  have b_x_InvalidSigns := F_x_InvalidSigns.binds (ps := ["self", "given"]) fun _ _ _ _ _ _ us hl => match us, hl with | [_, _], _ => rfl
  have F_x_InvalidCount := fun_mk (st := s_InvalidCount_init) l_x_InvalidCount c_x_InvalidCount kp_x_InvalidCount
  have b_x_InvalidCount := F_x_InvalidCount.binds (ps := ["self", "given"]) fun _ _ _ _ _ _ us hl => match us, hl with | [_, _], _ => rfl
  have F_p_text := fun_mk (st := s_Disk_text) l_p_text c_p_text kp_p_text
  have b_p_text := F_p_text.binds (ps := ["self"]) fun _ _ _ _ _ _ us hl => match us, hl with | [_], _ => rfl
  have F_p_synced := fun_mk (st := s_Disk_synced) l_p_synced c_p_synced kp_p_synced
  have b_p_synced := F_p_synced.binds (ps := ["self"]) fun _ _ _ _ _ _ us hl => match us, hl with | [_], _ => rfl
  have F_d_is_int := fun_mk (st := s_is_int) l_d_is_int c_d_is_int kp_d_is_int
  have F_d_is_count := fun_mk (st := s_is_count) l_d_is_count c_d_is_count kp_d_is_count
  have F_d_is_signs := fun_mk (st := s_is_signs) l_d_is_signs c_d_is_signs kp_d_is_signs
  have F_d_Disk_init := fun_mk (st := s_Disk_init) l_d_Disk_init c_d_Disk_init kp_d_Disk_init
  have b_d_Disk_init := F_d_Disk_init.binds (ps := ["self"]) fun _ _ _ _ _ _ us hl => match us, hl with | [_], _ => rfl
  have F_d_Disk_put := fun_mk (st := s_Disk_put) l_d_Disk_put c_d_Disk_put kp_d_Disk_put
  have F_d_Disk_sync := fun_mk (st := s_Disk_sync) l_d_Disk_sync c_d_Disk_sync kp_d_Disk_sync
  have F_d_Disk_trim := fun_mk (st := s_Disk_trim) l_d_Disk_trim c_d_Disk_trim kp_d_Disk_trim
  have F_d_Disk_fall := fun_mk (st := s_Disk_fall) l_d_Disk_fall c_d_Disk_fall kp_d_Disk_fall
  have F_d_Disk_lose := fun_mk (st := s_Disk_lose) l_d_Disk_lose c_d_Disk_lose kp_d_Disk_lose
  have F_d_Disk__leave := fun_mk (st := s_Disk__leave) l_d_Disk__leave c_d_Disk__leave kp_d_Disk__leave
  have F_d_l_cell := fun_mk (st := s_l_cell) l_d_l_cell c_d_l_cell kp_d_l_cell
  have F_d_l_box := fun_mk (st := s_l_box) l_d_l_box c_d_l_box kp_d_l_box
  have F_d_l_take := fun_mk (st := s_l_take) l_d_l_take c_d_l_take kp_d_l_take
  have F_d_l_signs := fun_mk (st := s_l_signs) l_d_l_signs c_d_l_signs kp_d_l_signs
  have F_d_l_odd_signs := fun_mk (st := s_l_odd_signs) l_d_l_odd_signs c_d_l_odd_signs kp_d_l_odd_signs
  have F_d_l_odd_count := fun_mk (st := s_l_odd_count) l_d_l_odd_count c_d_l_odd_count kp_d_l_odd_count
  have F_d_l_deed := fun_mk (st := s_l_deed) l_d_l_deed c_d_l_deed kp_d_l_deed
  have F_d_l_is_count := fun_mk (st := s_l_is_count) l_d_l_is_count c_d_l_is_count kp_d_l_is_count
  have F_d_l_is_signs := fun_mk (st := s_l_is_signs) l_d_l_is_signs c_d_l_is_signs kp_d_l_is_signs
  have F_d_l_left := fun_mk (st := s_l_left) l_d_l_left c_d_l_left kp_d_l_left
  have F_d_l_due := fun_mk (st := s_l_due) l_d_l_due c_d_l_due kp_d_l_due
  have F_d_l_did := fun_mk (st := s_l_did) l_d_l_did c_d_l_did kp_d_l_did
  have F_d_l_is := fun_mk (st := s_l_is) l_d_l_is c_d_l_is kp_d_l_is
  have F_d_l_done := fun_mk (st := s_l_done) l_d_l_done c_d_l_done kp_d_l_done
  have F_d_l_right := fun_mk (st := s_l_right) l_d_l_right c_d_l_right kp_d_l_right
  have F_d_law := fun_mk (st := s_law) l_d_law c_d_law kp_d_law
  let T : Tx K mg := {
    C_Disk := C_Disk,
    C_InvalidSigns := C_InvalidSigns,
    C_InvalidCount := C_InvalidCount,
    C_UnsaidError := C_UnsaidError,
    x_InvalidSigns := ⟨f_x_InvalidSigns, _, F_x_InvalidSigns, b_x_InvalidSigns⟩,
    x_InvalidCount := ⟨f_x_InvalidCount, _, F_x_InvalidCount, b_x_InvalidCount⟩,
    e_InvalidSigns := ⟨mg_of X G g_e_InvalidSigns, ⟨⟨_, _, _, _, _, _, _, _, _, _, _, _, _, _, _, xl_e_InvalidSigns, rv_e_InvalidSigns⟩, sa_e_InvalidSigns, eb_C_InvalidSigns, ty_C_InvalidSigns, kc_C_InvalidSigns⟩, a_x_InvalidSigns, ti_e_InvalidSigns, nf_e_InvalidSigns, ⟨ga_e_InvalidSigns, gt_e_InvalidSigns, eb_C_InvalidSigns, hd_C_InvalidSigns, ncl_e_InvalidSigns, nsp, ntk, nmo_e_InvalidSigns⟩⟩,
    e_InvalidCount := ⟨mg_of X G g_e_InvalidCount, ⟨⟨_, _, _, _, _, _, _, _, _, _, _, _, _, _, _, xl_e_InvalidCount, rv_e_InvalidCount⟩, sa_e_InvalidCount, eb_C_InvalidCount, ty_C_InvalidCount, kc_C_InvalidCount⟩, a_x_InvalidCount, ti_e_InvalidCount, nf_e_InvalidCount, ⟨ga_e_InvalidCount, gt_e_InvalidCount, eb_C_InvalidCount, hd_C_InvalidCount, ncl_e_InvalidCount, nsp, ntk, nmo_e_InvalidCount⟩⟩,
    m_InvalidSigns := mg_of X G g_e_InvalidSigns,
    m_InvalidCount := mg_of X G g_e_InvalidCount,
    m_UnsaidError := mg_of X G g_m_UnsaidError,
    x_ss := PySem.W.exm_ref eb_C_InvalidSigns hd_C_InvalidSigns ty_C_InvalidSigns su_C_InvalidSigns_C_InvalidSigns,
    x_cs := PySem.W.exm_ref eb_C_InvalidSigns hd_C_InvalidSigns ty_C_InvalidSigns su_C_InvalidCount_C_InvalidSigns,
    x_cc := PySem.W.exm_ref eb_C_InvalidCount hd_C_InvalidCount ty_C_InvalidCount su_C_InvalidCount_C_InvalidCount,
    i_s := PySem.W.kit_ref hd_C_UnsaidError ty_C_UnsaidError su_C_InvalidSigns_C_UnsaidError,
    i_c := PySem.W.kit_ref hd_C_UnsaidError ty_C_UnsaidError su_C_InvalidCount_C_UnsaidError,
    cl_Disk := ⟨pg_C_Disk, hd_C_Disk, po_C_Disk, sa_C_Disk⟩,
    m_Disk := mg_of X G g_m_Disk,
    na_text := h_na_text_C_Disk,
    na_synced := h_na_synced_C_Disk,
    p_text := ⟨p_p_text, f_p_text, _, F_p_text, ⟨a_p_text, gg_p_text, tt_p_text, ⟨_, rr_p_text⟩⟩, b_p_text⟩,
    p_synced := ⟨p_p_synced, f_p_synced, _, F_p_synced, ⟨a_p_synced, gg_p_synced, tt_p_synced, ⟨_, rr_p_synced⟩⟩, b_p_synced⟩,
    n_abs := mg_none_of X G z_n_abs,
    n_bool := mg_none_of X G z_n_bool,
    n_int := mg_none_of X G z_n_int,
    n_isinstance := mg_none_of X G z_n_isinstance,
    n_len := mg_none_of X G z_n_len,
    n_list := mg_none_of X G z_n_list,
    n_max := mg_none_of X G z_n_max,
    n_min := mg_none_of X G z_n_min,
    n_range := mg_none_of X G z_n_range,
    n_repr := mg_none_of X G z_n_repr,
    n_str := mg_none_of X G z_n_str,
    n_sum := mg_none_of X G z_n_sum,
    d_is_int := ⟨f_d_is_int, _, F_d_is_int, mg_of X G a_d_is_int, fun us hl => match us, hl with | [_], _ => rfl⟩,
    d_is_count := ⟨f_d_is_count, _, F_d_is_count, mg_of X G a_d_is_count, fun us hl => match us, hl with | [_], _ => rfl⟩,
    d_is_signs := ⟨f_d_is_signs, _, F_d_is_signs, mg_of X G a_d_is_signs, fun us hl => match us, hl with | [_], _ => rfl⟩,
    d_Disk_init := ⟨f_d_Disk_init, _, F_d_Disk_init, b_d_Disk_init⟩,
    k_Disk := ⟨mk_C_Disk, a_d_Disk_init, i_d_Disk_init, kc_C_Disk⟩,
    d_Disk_put := ⟨f_d_Disk_put, _, F_d_Disk_put, ⟨a_d_Disk_put, i_d_Disk_put, kp_d_Disk_put⟩, fun us hl => match us, hl with | [_, _], _ => rfl, fun us ws h1 h2 => match us, ws, h1, h2 with | [_], [_], _, _ => rfl⟩,
    d_Disk_sync := ⟨f_d_Disk_sync, _, F_d_Disk_sync, ⟨a_d_Disk_sync, i_d_Disk_sync, kp_d_Disk_sync⟩, fun us hl => match us, hl with | [_], _ => rfl, fun us ws h1 h2 => match us, ws, h1, h2 with | [_], [], _, _ => rfl⟩,
    d_Disk_trim := ⟨f_d_Disk_trim, _, F_d_Disk_trim, ⟨a_d_Disk_trim, i_d_Disk_trim, kp_d_Disk_trim⟩, fun us hl => match us, hl with | [_, _], _ => rfl, fun us ws h1 h2 => match us, ws, h1, h2 with | [_], [_], _, _ => rfl⟩,
    d_Disk_fall := ⟨f_d_Disk_fall, _, F_d_Disk_fall, ⟨a_d_Disk_fall, i_d_Disk_fall, kp_d_Disk_fall⟩, fun us hl => match us, hl with | [_, _], _ => rfl, fun us ws h1 h2 => match us, ws, h1, h2 with | [_], [_], _, _ => rfl⟩,
    d_Disk_lose := ⟨f_d_Disk_lose, _, F_d_Disk_lose, ⟨a_d_Disk_lose, i_d_Disk_lose, kp_d_Disk_lose⟩, fun us hl => match us, hl with | [_, _], _ => rfl, fun us ws h1 h2 => match us, ws, h1, h2 with | [_], [_], _, _ => rfl⟩,
    d_Disk__leave := ⟨f_d_Disk__leave, _, F_d_Disk__leave, ⟨a_d_Disk__leave, i_d_Disk__leave, kp_d_Disk__leave⟩, fun us hl => match us, hl with | [_, _], _ => rfl, fun us ws h1 h2 => match us, ws, h1, h2 with | [_], [_], _, _ => rfl⟩,
    d_l_cell := ⟨f_d_l_cell, _, F_d_l_cell, mg_of X G a_d_l_cell, fun us hl => match us, hl with | [_, _], _ => rfl⟩,
    d_l_box := ⟨f_d_l_box, _, F_d_l_box, mg_of X G a_d_l_box, fun us hl => match us, hl with | [_], _ => rfl⟩,
    d_l_take := ⟨f_d_l_take, _, F_d_l_take, mg_of X G a_d_l_take, fun us hl => match us, hl with | [_, _], _ => rfl⟩,
    d_l_signs := ⟨f_d_l_signs, _, F_d_l_signs, mg_of X G a_d_l_signs, fun us hl => match us, hl with | [_], _ => rfl⟩,
    d_l_odd_signs := ⟨f_d_l_odd_signs, _, F_d_l_odd_signs, mg_of X G a_d_l_odd_signs, fun us hl => match us, hl with | [_, _], _ => rfl⟩,
    d_l_odd_count := ⟨f_d_l_odd_count, _, F_d_l_odd_count, mg_of X G a_d_l_odd_count, fun us hl => match us, hl with | [_], _ => rfl⟩,
    d_l_deed := ⟨f_d_l_deed, _, F_d_l_deed, mg_of X G a_d_l_deed, fun us hl => match us, hl with | [_, _, _], _ => rfl⟩,
    d_l_is_count := ⟨f_d_l_is_count, _, F_d_l_is_count, mg_of X G a_d_l_is_count, fun us hl => match us, hl with | [_], _ => rfl⟩,
    d_l_is_signs := ⟨f_d_l_is_signs, _, F_d_l_is_signs, mg_of X G a_d_l_is_signs, fun us hl => match us, hl with | [_], _ => rfl⟩,
    d_l_left := ⟨f_d_l_left, _, F_d_l_left, mg_of X G a_d_l_left, fun us hl => match us, hl with | [_, _], _ => rfl⟩,
    d_l_due := ⟨f_d_l_due, _, F_d_l_due, mg_of X G a_d_l_due, fun us hl => match us, hl with | [_, _], _ => rfl⟩,
    d_l_did := ⟨f_d_l_did, _, F_d_l_did, mg_of X G a_d_l_did, fun us hl => match us, hl with | [_, _, _], _ => rfl⟩,
    d_l_is := ⟨f_d_l_is, _, F_d_l_is, mg_of X G a_d_l_is, fun us hl => match us, hl with | [_, _], _ => rfl⟩,
    d_l_done := ⟨f_d_l_done, _, F_d_l_done, mg_of X G a_d_l_done, fun us hl => match us, hl with | [_, _, _, _, _], _ => rfl⟩,
    d_l_right := ⟨f_d_l_right, _, F_d_l_right, mg_of X G a_d_l_right, fun us hl => match us, hl with | [_], _ => rfl⟩,
    d_law := ⟨fa, _, F_d_law, mg_of X G a_d_law, fun us hl => match us, hl with | [_], _ => rfl⟩ }
  exact ⟨_, fun s v => .of_eq rfl, fun base _ _ => ok_law T⟩
end K04

open PySem PySem.W PyProof.Rows
set_option maxRecDepth 100000 in
set_option maxHeartbeats 0 in
theorem PySem.Challenge.cw_neverunsaid_k04_whole_disks_and_falls_holds : PySem.Challenge.rw_neverunsaid_k04_whole_disks_and_falls.Holds := by
  w_on; o_law; k_head; (case hw => w_witness2)
  k_fill
  refine Nv.walkG (l := PySem.Challenge.rw_neverunsaid_k04_whole_disks_and_falls) (n := 63) (k := 8) (x := "_law_script") (sp := K04.spLaw) rfl (by decide) rfl ⟨rfl, by decide, by decide⟩ (fun w h Y => PySem.W.kIn_of Y) ?F ?S
  case F =>
    intro w mg fa h KX G hmg
    refine' K04.all_mk KX G hmg ?g_e_InvalidSigns ?g_e_InvalidCount ?g_m_UnsaidError ?g_m_Disk ?a_x_InvalidSigns ?a_x_InvalidCount ?a_p_text ?a_p_synced ?a_d_is_int ?a_d_is_count ?a_d_is_signs ?a_d_Disk_init ?a_d_Disk_put ?a_d_Disk_sync ?a_d_Disk_trim ?a_d_Disk_fall ?a_d_Disk_lose ?a_d_Disk__leave ?a_d_l_cell ?a_d_l_box ?a_d_l_take ?a_d_l_signs ?a_d_l_odd_signs ?a_d_l_odd_count ?a_d_l_deed ?a_d_l_is_count ?a_d_l_is_signs ?a_d_l_left ?a_d_l_due ?a_d_l_did ?a_d_l_is ?a_d_l_done ?a_d_l_right ?a_d_law ?rr_p_text ?rr_p_synced ?l_x_InvalidSigns ?l_x_InvalidCount ?l_p_text ?l_p_synced ?l_d_is_int ?l_d_is_count ?l_d_is_signs ?l_d_Disk_init ?l_d_Disk_put ?l_d_Disk_sync ?l_d_Disk_trim ?l_d_Disk_fall ?l_d_Disk_lose ?l_d_Disk__leave ?l_d_l_cell ?l_d_l_box ?l_d_l_take ?l_d_l_signs ?l_d_l_odd_signs ?l_d_l_odd_count ?l_d_l_deed ?l_d_l_is_count ?l_d_l_is_signs ?l_d_l_left ?l_d_l_due ?l_d_l_did ?l_d_l_is ?l_d_l_done ?l_d_l_right ?l_d_law ?xl_e_InvalidSigns ?xl_e_InvalidCount ?c_x_InvalidSigns ?kp_x_InvalidSigns ?c_x_InvalidCount ?kp_x_InvalidCount ?rv_e_InvalidSigns ?sa_e_InvalidSigns ?eb_C_InvalidSigns ?ty_C_InvalidSigns ?kc_C_InvalidSigns ?ti_e_InvalidSigns ?nf_e_InvalidSigns ?ga_e_InvalidSigns ?gt_e_InvalidSigns ?hd_C_InvalidSigns ?ncl_e_InvalidSigns ?nsp ?ntk ?nmo_e_InvalidSigns ?rv_e_InvalidCount ?sa_e_InvalidCount ?eb_C_InvalidCount ?ty_C_InvalidCount ?kc_C_InvalidCount ?ti_e_InvalidCount ?nf_e_InvalidCount ?ga_e_InvalidCount ?gt_e_InvalidCount ?hd_C_InvalidCount ?ncl_e_InvalidCount ?nmo_e_InvalidCount ?su_C_InvalidSigns_C_InvalidSigns ?su_C_InvalidCount_C_InvalidSigns ?su_C_InvalidCount_C_InvalidCount ?su_C_InvalidSigns_C_UnsaidError ?hd_C_UnsaidError ?ty_C_UnsaidError ?su_C_InvalidCount_C_UnsaidError ?pg_C_Disk ?hd_C_Disk ?po_C_Disk ?sa_C_Disk ?h_na_text_C_Disk ?h_na_synced_C_Disk ?gg_p_text ?tt_p_text ?c_p_text ?kp_p_text ?gg_p_synced ?tt_p_synced ?c_p_synced ?kp_p_synced ?z_n_abs ?z_n_bool ?z_n_int ?z_n_isinstance ?z_n_len ?z_n_list ?z_n_max ?z_n_min ?z_n_range ?z_n_repr ?z_n_str ?z_n_sum ?c_d_is_int ?kp_d_is_int ?c_d_is_count ?kp_d_is_count ?c_d_is_signs ?kp_d_is_signs ?c_d_Disk_init ?kp_d_Disk_init ?mk_C_Disk ?i_d_Disk_init ?kc_C_Disk ?i_d_Disk_put ?c_d_Disk_put ?kp_d_Disk_put ?i_d_Disk_sync ?c_d_Disk_sync ?kp_d_Disk_sync ?i_d_Disk_trim ?c_d_Disk_trim ?kp_d_Disk_trim ?i_d_Disk_fall ?c_d_Disk_fall ?kp_d_Disk_fall ?i_d_Disk_lose ?c_d_Disk_lose ?kp_d_Disk_lose ?i_d_Disk__leave ?c_d_Disk__leave ?kp_d_Disk__leave ?c_d_l_cell ?kp_d_l_cell ?c_d_l_box ?kp_d_l_box ?c_d_l_take ?kp_d_l_take ?c_d_l_signs ?kp_d_l_signs ?c_d_l_odd_signs ?kp_d_l_odd_signs ?c_d_l_odd_count ?kp_d_l_odd_count ?c_d_l_deed ?kp_d_l_deed ?c_d_l_is_count ?kp_d_l_is_count ?c_d_l_is_signs ?kp_d_l_is_signs ?c_d_l_left ?kp_d_l_left ?c_d_l_due ?kp_d_l_due ?c_d_l_did ?kp_d_l_did ?c_d_l_is ?kp_d_l_is ?c_d_l_done ?kp_d_l_done ?c_d_l_right ?kp_d_l_right ?c_d_law ?kp_d_law
    (case g_e_InvalidSigns => k_is)
    (case g_e_InvalidCount => k_is)
    (case g_m_UnsaidError => k_is)
    (case g_m_Disk => k_is)
    (case a_x_InvalidSigns => k_is)
    (case a_x_InvalidCount => k_is)
    (case a_p_text => k_is)
    (case a_p_synced => k_is)
    (case a_d_is_int => k_is)
    (case a_d_is_count => k_is)
    (case a_d_is_signs => k_is)
    (case a_d_Disk_init => k_is)
    (case a_d_Disk_put => k_is)
    (case a_d_Disk_sync => k_is)
    (case a_d_Disk_trim => k_is)
    (case a_d_Disk_fall => k_is)
    (case a_d_Disk_lose => k_is)
    (case a_d_Disk__leave => k_is)
    (case a_d_l_cell => k_is)
    (case a_d_l_box => k_is)
    (case a_d_l_take => k_is)
    (case a_d_l_signs => k_is)
    (case a_d_l_odd_signs => k_is)
    (case a_d_l_odd_count => k_is)
    (case a_d_l_deed => k_is)
    (case a_d_l_is_count => k_is)
    (case a_d_l_is_signs => k_is)
    (case a_d_l_left => k_is)
    (case a_d_l_due => k_is)
    (case a_d_l_did => k_is)
    (case a_d_l_is => k_is)
    (case a_d_l_done => k_is)
    (case a_d_l_right => k_is)
    (case a_d_law => k_is)
    (case rr_p_text => k_is)
    (case rr_p_synced => k_is)
    (case l_x_InvalidSigns => k_is)
    (case l_x_InvalidCount => k_is)
    (case l_p_text => k_is)
    (case l_p_synced => k_is)
    (case l_d_is_int => k_is)
    (case l_d_is_count => k_is)
    (case l_d_is_signs => k_is)
    (case l_d_Disk_init => k_is)
    (case l_d_Disk_put => k_is)
    (case l_d_Disk_sync => k_is)
    (case l_d_Disk_trim => k_is)
    (case l_d_Disk_fall => k_is)
    (case l_d_Disk_lose => k_is)
    (case l_d_Disk__leave => k_is)
    (case l_d_l_cell => k_is)
    (case l_d_l_box => k_is)
    (case l_d_l_take => k_is)
    (case l_d_l_signs => k_is)
    (case l_d_l_odd_signs => k_is)
    (case l_d_l_odd_count => k_is)
    (case l_d_l_deed => k_is)
    (case l_d_l_is_count => k_is)
    (case l_d_l_is_signs => k_is)
    (case l_d_l_left => k_is)
    (case l_d_l_due => k_is)
    (case l_d_l_did => k_is)
    (case l_d_l_is => k_is)
    (case l_d_l_done => k_is)
    (case l_d_l_right => k_is)
    (case l_d_law => k_is)
    (case xl_e_InvalidSigns => k_is)
    (case xl_e_InvalidCount => k_is)
    (case c_x_InvalidSigns => k_is)
    (case kp_x_InvalidSigns => k_is)
    (case c_x_InvalidCount => k_is)
    (case kp_x_InvalidCount => k_is)
    (case rv_e_InvalidSigns => decide +kernel)
    (case sa_e_InvalidSigns => k_is)
    (case eb_C_InvalidSigns => k_is)
    (case ty_C_InvalidSigns => k_is)
    (case kc_C_InvalidSigns => k_is)
    (case ti_e_InvalidSigns => k_is)
    (case nf_e_InvalidSigns => k_is)
    (case ga_e_InvalidSigns => k_is)
    (case gt_e_InvalidSigns => k_is)
    (case hd_C_InvalidSigns => k_is)
    (case ncl_e_InvalidSigns => k_is)
    (case nsp => k_is)
    (case ntk => k_is)
    (case nmo_e_InvalidSigns => k_is)
    (case rv_e_InvalidCount => decide +kernel)
    (case sa_e_InvalidCount => k_is)
    (case eb_C_InvalidCount => k_is)
    (case ty_C_InvalidCount => k_is)
    (case kc_C_InvalidCount => k_is)
    (case ti_e_InvalidCount => k_is)
    (case nf_e_InvalidCount => k_is)
    (case ga_e_InvalidCount => k_is)
    (case gt_e_InvalidCount => k_is)
    (case hd_C_InvalidCount => k_is)
    (case ncl_e_InvalidCount => k_is)
    (case nmo_e_InvalidCount => k_is)
    (case su_C_InvalidSigns_C_InvalidSigns => k_is)
    (case su_C_InvalidCount_C_InvalidSigns => k_is)
    (case su_C_InvalidCount_C_InvalidCount => k_is)
    (case su_C_InvalidSigns_C_UnsaidError => k_is)
    (case hd_C_UnsaidError => k_is)
    (case ty_C_UnsaidError => k_is)
    (case su_C_InvalidCount_C_UnsaidError => k_is)
    (case pg_C_Disk => k_is)
    (case hd_C_Disk => k_is)
    (case po_C_Disk => k_is)
    (case sa_C_Disk => k_is)
    (case h_na_text_C_Disk => k_is)
    (case h_na_synced_C_Disk => k_is)
    (case gg_p_text => k_is)
    (case tt_p_text => k_is)
    (case c_p_text => k_is)
    (case kp_p_text => k_is)
    (case gg_p_synced => k_is)
    (case tt_p_synced => k_is)
    (case c_p_synced => k_is)
    (case kp_p_synced => k_is)
    (case z_n_abs => k_is)
    (case z_n_bool => k_is)
    (case z_n_int => k_is)
    (case z_n_isinstance => k_is)
    (case z_n_len => k_is)
    (case z_n_list => k_is)
    (case z_n_max => k_is)
    (case z_n_min => k_is)
    (case z_n_range => k_is)
    (case z_n_repr => k_is)
    (case z_n_str => k_is)
    (case z_n_sum => k_is)
    (case c_d_is_int => k_is)
    (case kp_d_is_int => k_is)
    (case c_d_is_count => k_is)
    (case kp_d_is_count => k_is)
    (case c_d_is_signs => k_is)
    (case kp_d_is_signs => k_is)
    (case c_d_Disk_init => k_is)
    (case kp_d_Disk_init => k_is)
    (case mk_C_Disk => k_is)
    (case i_d_Disk_init => k_is)
    (case kc_C_Disk => k_is)
    (case i_d_Disk_put => k_is)
    (case c_d_Disk_put => k_is)
    (case kp_d_Disk_put => k_is)
    (case i_d_Disk_sync => k_is)
    (case c_d_Disk_sync => k_is)
    (case kp_d_Disk_sync => k_is)
    (case i_d_Disk_trim => k_is)
    (case c_d_Disk_trim => k_is)
    (case kp_d_Disk_trim => k_is)
    (case i_d_Disk_fall => k_is)
    (case c_d_Disk_fall => k_is)
    (case kp_d_Disk_fall => k_is)
    (case i_d_Disk_lose => k_is)
    (case c_d_Disk_lose => k_is)
    (case kp_d_Disk_lose => k_is)
    (case i_d_Disk__leave => k_is)
    (case c_d_Disk__leave => k_is)
    (case kp_d_Disk__leave => k_is)
    (case c_d_l_cell => k_is)
    (case kp_d_l_cell => k_is)
    (case c_d_l_box => k_is)
    (case kp_d_l_box => k_is)
    (case c_d_l_take => k_is)
    (case kp_d_l_take => k_is)
    (case c_d_l_signs => k_is)
    (case kp_d_l_signs => k_is)
    (case c_d_l_odd_signs => k_is)
    (case kp_d_l_odd_signs => k_is)
    (case c_d_l_odd_count => k_is)
    (case kp_d_l_odd_count => k_is)
    (case c_d_l_deed => k_is)
    (case kp_d_l_deed => k_is)
    (case c_d_l_is_count => k_is)
    (case kp_d_l_is_count => k_is)
    (case c_d_l_is_signs => k_is)
    (case kp_d_l_is_signs => k_is)
    (case c_d_l_left => k_is)
    (case kp_d_l_left => k_is)
    (case c_d_l_due => k_is)
    (case kp_d_l_due => k_is)
    (case c_d_l_did => k_is)
    (case kp_d_l_did => k_is)
    (case c_d_l_is => k_is)
    (case kp_d_l_is => k_is)
    (case c_d_l_done => k_is)
    (case kp_d_l_done => k_is)
    (case c_d_l_right => k_is)
    (case kp_d_l_right => k_is)
    (case c_d_law => k_is)
    (case kp_d_law => k_is)
  case S => exact fun K H a ns hl hS => ⟨a, ns, rfl, hS, hl, fun _ => rfl⟩
