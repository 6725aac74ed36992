import PyProof.Rows.All
import Wide.All
import OpenK.AllK
import Wide.FinOn
import HandS.ForMost
import HandS.ForSpec
import HandS.Defaults
import HandS.Wide
import HandS.WideMore
import HandS.IsInst
import HandS.ExcInit
import HandS.ExcIs
import HandS.Deep
import HandS.Sort
import HandS.SortKw
import HandS.TupAny
import HandS.TupLen
import HandS.RevTup
import HandS.Style
import HandS.Flow
import HandS.Head0
import HandS.Head1
import HandS.Head2
import HandS.HeadEnd
import HandS.HeadHook1
import HandS.HeadHook2
import PyProof.StrLawsRepr
import PyProof.RowDictHeap
import KE.KExcIs
import HandS.Conv
import HandS.Text
import HandS.Lambda
import HandS.EndBits
import HandS.DictComp
import HandS.Property
import HandS.Zip
import HandS.StrMore
import HandS.SlotsOwn
import HandS.OwnEq
import KE.KOpsOwn
import KE.KCallOwn
import PyProof.ListMulRight
import HandS.Star
import PyProof.InstNe
import KE.KDictPairs
import HandS.Set
import HandS.SetFor
import HandS.Strs
import HandS.More
import HandS.RaiseMore
import HandS.HeadNt
import PySem.Challenge.RW_dialsums_k04_whole_sums_reckoned
import KE.KStrBytes
set_option Elab.async false
set_option linter.all false
set_option maxRecDepth 100000
set_option maxHeartbeats 4000000
/-! G0: defs whose callers' guards are known to be none (so that repr of tuples and lists can be told), their calls, the end of a law. -/
namespace GX
open PySem PySem.Spec PyProof.Rows L2

/-! ### room and guards -/
structure RmG (k : Nat) (A : Around) : Prop where
  rm : Room k A
  gd : A.guards = some []
theorem RmG.mono {j k : Nat} {A : Around} (r : RmG k A) (h : j ≤ k) : RmG j A := ⟨r.rm.mono h, r.gd⟩
theorem RmG.deeper {k : Nat} {A : Around} (r : RmG (k + 1) A) (env : Env) : RmG k (A.deeper env) := ⟨r.rm.deeper env, r.gd⟩
theorem RmG.make {k : Nat} {A : Around} (r : RmG (k + 1) A) (C : Addr) (us : List Value) (kw : List (Str × Value)) :
    RmG k (A.under (.builtin "type.__call__" ⟨.ref C :: us, kw⟩)) := by
  refine ⟨r.rm.make C us kw, ?_⟩
  have e : (Code.builtin "type.__call__" ⟨.ref C :: us, kw⟩).guards = [] := by
    simp [Code.guards, Code.isGuard, guardIds]
  show pushGuards (Code.builtin "type.__call__" ⟨.ref C :: us, kw⟩).guards A.guards = some []
  rw [e]
  exact r.gd
theorem RmG.caller {k : Nat} (h : Room k callerA) : RmG k callerA := ⟨h, rfl⟩

/-! ### what a def keeps -/
structure FnG (P : Program) (w : World) (K : PySem.W.Frag) (mg : Str → Option Value) (base : Heap) (CX : CXT) (k : Nat) (f : Addr) (fd : FuncData) (ps : List Str) (sp : Sp) : Prop where
  len : ∀ vs H Q E, sp vs H Q E → vs.length = ps.length
  run : ∀ (A : Around) (outer : List Env) (s : Shared) (H : Hp) (args : Args) (us : List Value) (vs : List V) (Q : VK) (E : XK), RmG k A →
    Env0 P w K mg base A outer s H → BindsTo s fd args (ps.zip us) → Vals vs us → sp vs H Q E → codeAny (model P w) A (.call (.ref f) args) (CR CX outer P w H s Q E) s
theorem FnG.mono {P : Program} {w : World} {K : PySem.W.Frag} {mg : Str → Option Value} {base : Heap} {CX : CXT} {j k : Nat} {f : Addr} {fd : FuncData} {ps : List Str} {sp : Sp}
    (F : FnG P w K mg base CX j f fd ps sp) (h : j ≤ k) : FnG P w K mg base CX k f fd ps sp :=
  ⟨F.len, fun A outer s H args us vs Q E hr => F.run A outer s H args us vs Q E (hr.mono h)⟩
theorem FnG.imp {P : Program} {w : World} {K : PySem.W.Frag} {mg : Str → Option Value} {base : Heap} {CX : CXT} {k : Nat} {f : Addr} {fd : FuncData} {ps : List Str} {sp sp' : Sp}
    (F : FnG P w K mg base CX k f fd ps sp) (h : ∀ vs H Q E, sp' vs H Q E → sp vs H Q E) : FnG P w K mg base CX k f fd ps sp' :=
  ⟨fun vs H Q E q => F.len vs H Q E (h _ _ _ _ q), fun A outer s H args us vs Q E hr e0 hb hv hs => F.run A outer s H args us vs Q E hr e0 hb hv (h _ _ _ _ hs)⟩

/-- a def by its body -/
theorem fnG_of {CX : CXT} {P : Program} {w : World} {K : PySem.W.Frag} {mg : Str → Option Value} {base : Heap} {k : Nat} {f : Addr} {name qual : Str} {params : Arguments} {body : List Stmt} {scope : Scope} {dV kV doc pm cdv ct oc : Value} {an od : Option Addr}
    {osl : Array (Option Value)} {N ps : List Str} {sp : Sp} (lk : K.lookup f = some ⟨oc, od, .func (PySem.W.fnOf name qual params body scope dV kV doc pm an cdv ct), osl⟩)
    (hcd : PySem.W.codeIn K cdv qual = true) (S : FnScope N ps scope) (len : ∀ vs H Q E, sp vs H Q E → vs.length = ps.length)
    (hbody : ∀ (A : Around) (outer : List Env) (s : Shared) (H : Hp) (vs : List V) (Q : VK) (E : XK), RmG k (A.deeper (envOfC qual scope s.heap.objs.size f cdv)) → sp vs H Q E →
      ∃ t, PSs (cxOf CX P w K mg base N qual scope f cdv A outer s H E) body t ∧ t { nx := fun _ H' => Q .non H', rt := Q } (start N vs) H) :
    FnG P w K mg base CX (k + 1) f (PySem.W.fnOf name qual params body scope dV kV doc pm an cdv ct) ps sp := by
  refine ⟨len, fun A outer s H args us vs Q E hr e0 hb r hsp => ?_⟩
  have hl := len _ _ _ _ hsp
  have KX : K.In s.heap := e0.mod.kin.keeps fun b o e => (e0.bs b o e).1
  have nolim : s.heap.NoLimit := e0.mod.nolimit.keeps fun b o e => (e0.bs b o e).1
  have kinds : ∀ y ∈ ps.zip us, scope.names.lookup y.1 = some .local ∨ (scope.names.lookup y.1 = some .cell ∧ ((cellsFrom (s.heap.objs.size + 1) scope.names []).lookup y.1).isSome = true) := by
    rintro ⟨n, v⟩ hy
    exact (S.par n (List.of_mem_zip hy).1).imp id fun q => ⟨q, PySem.W.cellsFrom_some _ _ _ (.inl q)⟩
  refine codeAny_call_function hr.rm.depth (KX _ _ lk) rfl S.co S.gen rfl (PySem.W.codeRec_of KX hcd) (hb _ _ _ _ ?_)
  refine wpAny_newFunctionEnv_cells S.kind kinds fun env he s1 x => ?_
  subst he
  refine ⟨nolim.keeps x.toInCall.keep, codeAny_func ?_⟩
  obtain ⟨t, ht, hq⟩ := hbody A outer s H vs Q E (hr.deeper _) hsp
  have I := inv_start (CX := CX) (E := E) S hr.rm.hd e0 hl r x
  refine wpAny_mono (ht.run [] s1 (start N vs) H _ I hq) (fun fl s' hs => ?_) fun e s' hs => hs
  cases fl with
  | ret u =>
    obtain ⟨v, σ', H', J, rv, q⟩ := hs
    exact ⟨v, H', J.os, J.bare, J.base, J.hok, rv, q⟩
  | next =>
    obtain ⟨σ', H', J, q⟩ := hs
    exact ⟨V.non, H', J.os, J.bare, J.base, J.hok, rfl, q⟩
  | brk => exact (hs.elim fun _ z => z.elim fun _ z => z.2).elim
  | cont => exact (hs.elim fun _ z => z.elim fun _ z => z.2).elim
/-- the same from what a head tells of the def -/
theorem fnG {CX : CXT} {P : Program} {w : World} {K : PySem.W.Frag} {mg : Str → Option Value} {base : Heap} {x qual : Str} {params : Arguments} {body : List Stmt} {scope : Scope} {dvs : List V} {kws : List (Str × V)} {f : Addr} {fd : FuncData} {N ps : List Str} {k : Nat} {sp : Sp}
    (F : FunD K x qual params body scope dvs kws f fd) (S : FnScope N ps scope) (len : ∀ vs H Q E, sp vs H Q E → vs.length = ps.length)
    (hbody : ∀ (cdv : Value) (A : Around) (outer : List Env) (s : Shared) (H : Hp) (vs : List V) (Q : VK) (E : XK), RmG k (A.deeper (envOfC qual scope s.heap.objs.size f cdv)) → sp vs H Q E →
      ∃ t, PSs (cxOf CX P w K mg base N qual scope f cdv A outer s H E) body t ∧ t { nx := fun _ H' => Q .non H', rt := Q } (start N vs) H) : FnG P w K mg base CX (k + 1) f fd ps sp := by
  obtain ⟨oc, od, dV, kV, doc, pm, an, cdv, ct, osl, rfl, lk, hcd, _, _⟩ := F.ex
  exact fnG_of lk hcd S len fun A outer s H vs Q E hr hsp => hbody cdv A outer s H vs Q E hr hsp

/-- the same, nothing raised leaves the def -/
theorem fnG0 {P : Program} {w : World} {K : PySem.W.Frag} {mg : Str → Option Value} {base : Heap} {x qual : Str} {params : Arguments} {body : List Stmt} {scope : Scope} {dvs : List V} {kws : List (Str × V)} {f : Addr} {fd : FuncData} {N ps : List Str} {k : Nat} {sp : Sp}
    (F : FunD K x qual params body scope dvs kws f fd) (S : FnScope N ps scope) (len : ∀ vs H Q E, sp vs H Q E → vs.length = ps.length)
    (hbody : ∀ (cdv : Value) (A : Around) (outer : List Env) (s : Shared) (H : Hp) (vs : List V) (Q : VK) (E : XK), RmG k (A.deeper (envOfC qual scope s.heap.objs.size f cdv)) → sp vs H Q E →
      ∃ t, PSs (cxOf CX0 P w K mg base N qual scope f cdv A outer s H E).nox body t ∧ t { nx := fun _ H' => Q .non H', rt := Q } (start N vs) H) : FnG P w K mg base CX0 (k + 1) f fd ps sp :=
  fnG F S len fun cdv A outer s H vs Q E hr h => let ⟨t, h1, h2⟩ := hbody cdv A outer s H vs Q E hr h; ⟨t, h1.nox, h2⟩

/-! ### calls -/
section
variable {X : Cx} {CX : CXT} {k : Nat} {f C : Addr} {fd : FuncData} {ps : List Str} {sp : Sp} {dvs : List V} {ds : List Value} {E : XK} {x m : Str} {p pos apos : Pos} {e o : Expr} {es : List Expr} {ta : TE} {t : TA}
theorem run_fnG {pins : List (Addr × Obj)} {σ : L2.St} {H : Hp} {s : Shared} {Q : VK} {us : List Value} {vs : List V} (F : FnG X.prog X.w X.K X.mg X.base CX k f fd ps sp) (hr : RmG k X.A) (hb : Binds X.K fd ps ds) (hd : Vals dvs ds) (hx : Passes CX X E)
    (I : Inv X pins σ H s) (r : Vals vs us) (h : sp (vs ++ dvs) H Q E) : wpAny (model X.prog X.w) X.A (call (.ref f) us) (EP X pins σ Q) X.xe s := by
  have r2 := r.append hd
  have hl : (us ++ ds).length = ps.length := r2.length.symm.trans (F.len _ _ _ _ h)
  refine wpAny_call (codeAny_mono (F.run X.A X.stack s H ⟨us, []⟩ (us ++ ds) (vs ++ dvs) Q E hr I.env0 (hb s us I.kIn hl) r2 h) fun r s' hq => ?_)
  cases r with
  | error e => exact hx pins σ H s e s' I hq
  | ok fl =>
    cases fl with
    | ret u => exact I.after hq
    | _ => exact False.elim hq
/-- f(e, ..) -/
theorem pe_callG (F : FnG X.prog X.w X.K X.mg X.base CX k f fd ps sp) (hr : RmG k X.A) (hg : Gl X x) (hm : X.mg x = some (.ref f)) (hk : PySem.W.keepIn X.K (.ref f) = true) (hb : Binds X.K fd ps ds) (hd : Vals dvs ds) (hx : Passes CX X E)
    (ha : PA X (e :: es) t) (hdb : (x == ("__debug__" : Str)) = false := by decide) (he : starEach (e :: es) X.env = (false, eval e X.env) :: starEach es X.env := by rfl) (hpl : (backTo pos (starEach es X.env)).any (·.1) = false := by rfl) :
    PE X (.Call (.Name x p) (e :: es) [] pos) (tCall sp dvs E t) :=
  ⟨fun pins s σ H Q I h => wpAny_Call_Name_kw (ld_glob I hg hm (PySem.W.callWith_K (h₀ := X.base) I.ok.mod.kin hk
    (thn (ha.run pos pins s σ H _ I h) fun us s1 ⟨vs, H1, I1, r, q⟩ => ⟨I1.kIn, run_fnG F hr hb hd hx I1 r q⟩) he hpl) hdb)⟩
/-- f() -/
theorem pe_callG0 (F : FnG X.prog X.w X.K X.mg X.base CX k f fd ps sp) (hr : RmG k X.A) (hg : Gl X x) (hm : X.mg x = some (.ref f)) (hk : PySem.W.keepIn X.K (.ref f) = true) (hb : Binds X.K fd ps ds) (hd : Vals dvs ds) (hx : Passes CX X E)
    (hdb : (x == ("__debug__" : Str)) = false := by decide) : PE X (.Call (.Name x p) [] [] pos) (tCall sp dvs E tNil) :=
  ⟨fun pins s σ H Q I h => wpAny_Call_Name_kw (ld_glob I hg hm (PySem.W.callWith_K0 I.kIn hk (run_fnG (us := []) F hr hb hd hx I .nil h)) hdb)⟩
end

/-! ### an exception of an own class, made as a value: its object is tracked -/
/-- C(e, ..): C's __init__ keeps sp -/
def tMkV (C : Addr) (sp : Sp) (E : XK) (ta : TA) : TE := fun σ H Q => ta σ H fun vs H1 => vs.length ≤ 1000 ∧ ∀ a, H1 a = none → sp (.ref a :: vs) (upd H1 a (exo a C none)) (fun v H2 => v = .non ∧ Q (.ref a) H2) E
section
variable {X : Cx} {CX : CXT} {k : Nat} {fI C : Addr} {fd : FuncData} {ps : List Str} {sp : Sp} {E : XK} {x : Str} {p pos : Pos} {e : Expr} {es : List Expr} {ta : TA}
theorem pe_mkV (T : OexC X.K C) (iC : PySem.W.findIn X.K (.ref C) "__init__" = some (some (.ref fI))) (tI : PySem.W.typeIn X.K (.ref fI) = some (.type "function"))
    (F1 : FnG X.prog X.w X.K X.mg X.base CX k fI fd ps sp) (hr : RmG (k + 1) X.A) (hb : Binds X.K fd ps []) (hx : Passes CX X E) (hg : Gl X x) (hm : X.mg x = some (.ref C)) (ha : PA X (e :: es) ta)
    (hdb : (x == ("__debug__" : Str)) = false := by decide) (he : starEach (e :: es) X.env = (false, eval e X.env) :: starEach es X.env := by rfl) (hpl : (backTo pos (starEach es X.env)).any (·.1) = false := by rfl) :
    PE X (.Call (.Name x p) (e :: es) [] pos) (tMkV C sp E ta) := by
  refine ⟨fun pins s σ H Q I h => ?_⟩
  obtain ⟨nm, q, N, bs, bm, sn, sub, ab, col, dd, k0, k1, k2, k3, k5, hC, hbm⟩ := T.cls
  refine wpAny_Call_Name_kw (ld_glob I hg hm ?_ hdb)
  refine PySem.W.callWith_K (h₀ := X.base) I.ok.mod.kin T.kC (thn (ha.run pos pins s σ H _ I h) fun us s1 ⟨vs, H1, I1, r1, hz, q1⟩ => ⟨I1.kIn, ?_⟩) he hpl
  show wpAny _ _ (call (.ref C) us) _ _ _
  obtain ⟨hp, g, dr, tk, os⟩ := s1
  have big : hp.objs.size ≤ hp.objs.size + 1 := Nat.le_succ _
  have hq := q1 (hp.objs.size + 1) (I1.hok.fresh big)
  have kp : ∀ b o, hp.get? b = some o → ((hp.push (PySem.W.kdv_tup us)).push (PySem.HandSPX.excO C hp.objs.size)).get? b = some o := fun b o z => Heap.get?_push_of_some _ (Heap.get?_push_of_some _ z)
  have got : ((hp.push (PySem.W.kdv_tup us)).push (PySem.HandSPX.excO C hp.objs.size)).get? (hp.objs.size + 1) = some (PySem.HandSPX.excO C hp.objs.size) := by heap_get
  have I2 := I1.laid (t' := tk) (a := hp.objs.size + 1) (o := exo (hp.objs.size + 1) C none) kp big (exo_ok got)
  have r2 : Vals (V.ref (hp.objs.size + 1) :: vs) (Value.ref (hp.objs.size + 1) :: us) := .cons rfl r1
  have hl : ((Value.ref (hp.objs.size + 1) :: us) ++ []).length = ps.length := by
    rw [List.append_nil, ← r2.length, F1.len _ _ _ _ hq]
  have hus : us.length ≤ sizeLine := by
    rw [← Paired.length r1, sizeLine_eq]
    omega
  have hbt := hb _ (Value.ref (hp.objs.size + 1) :: us) I2.kIn hl
  rw [List.append_nil] at hbt
  refine wpAny_call (PySem.HandSPX.call_own F.excBase_ValueError (fun Y => PySem.HandSPX.refsVE_contains Y bm hbm) (I1.kIn _ _ hC) (PySem.W.looks_findIn I1.kIn iC) (fun self => PySem.W.bind_fn I1.kIn self tI) hus
    (codeAny_mono (F1.run _ X.stack _ _ ⟨Value.ref (hp.objs.size + 1) :: us, []⟩ _ _ _ E (hr.make C us []) (I2.env0.make C us []) hbt r2 hq) fun r s' hq' => ?_))
  cases r with
  | error er => exact hx pins σ _ _ er s' I2 hq'
  | ok fl =>
    cases fl with
    | ret u =>
      obtain ⟨v, H2, I3, rv, ev, q2⟩ := I2.after hq'
      subst ev
      exact ⟨rv, ⟨V.ref (hp.objs.size + 1), H2, I3, rfl, q2⟩⟩
    | _ => exact False.elim hq'
end

/-! ### a law's end -/
theorem law_callG {P : Program} {w : World} {K : PySem.W.Frag} {mg mb : Str → Option Value} {CX : CXT} {k : Nat} {fa a : Addr} {fd : FuncData} {x : Str} {sp : Sp} {s₁ : Shared} {vs : List Value} {ns : List Int}
    (KX : K.In s₁.heap) (hns : s₁.heap.Ns mainGlobals mg) (hb : s₁.heap.Ns builtinsNs mb) (hbb : ∀ x : Str, x ≠ "__name__" → mb x = bootBuiltins x) (hlim : s₁.heap.NoLimit) (hg : s₁.gens = #[])
    (ha : s₁.heap.get? a = some { cls := .type "list", data := .seq vs.toArray }) (hi : IntsAre vs ns) (hl : ns.length ≤ sizeLine) (hr : Room k callerA)
    (F : ∀ base : Heap, K.In base → base.Ns mainGlobals mg → FnG P w K mg base CX k fa fd [x] sp) (hbind : ∀ (s : Shared) (u : Value), BindsTo s fd ⟨[u], []⟩ [(x, u)])
    (hsp : ∀ H : Hp, Only H → SqL K H a (ns.map V.int) → sp [.ref a] H (fun v _ => v = .bl true) fun _ _ _ => False)
    (hCX : ∀ H e s', CX [] H s₁ (fun _ _ _ => False) e s' → False) :
    codeAny (model P w) callerA (.call (.ref fa) ⟨[.ref a], []⟩) (fun r s' => r = .ok (.ret (.bool true)) ∧ OldK s₁.heap s'.heap ∧ s'.os = s₁.os ∧ AllBare s'.gens) s₁ := by
  have rv := vals_ints hi
  have core : ∀ H : Hp, Only H → SqL K H a (ns.map V.int) → HOk P w H s₁.heap → (∀ b, H b ≠ none → b = a) → (H a ≠ none → K.lookup a = none) →
      codeAny (model P w) callerA (.call (.ref fa) ⟨[.ref a], []⟩) (fun r s' => r = .ok (.ret (.bool true)) ∧ OldK s₁.heap s'.heap ∧ s'.os = s₁.os ∧ AllBare s'.gens) s₁ := by
    intro H hO hS hok hA hK
    have stay : ∀ {b : Addr} {o : Obj}, s₁.heap.get? b = some o → (b = a → False) → (hidT s₁.heap H).get? b = some o := fun {b o} e n => hidT_get e (by
      cases q : H b with
      | none => rfl
      | some u => exact (n (hA b (by rw [q]; exact fun z => nomatch z))).elim)
    have ns' : ∀ {b : Addr} {m : Str → Option Value}, s₁.heap.Ns b m → (hidT s₁.heap H).Ns b m := fun {b m} ⟨o, es, ep, e, d, r⟩ => ⟨o, es, ep, stay e (fun z => by
      subst z
      rw [ha] at e
      cases e
      cases d), d, r⟩
    have hKb : K.In (hidT s₁.heap H) := fun b o e => by
      refine hidT_get (KX b o e) ?_
      cases q : H b with
      | none => rfl
      | some u =>
        have e' := hA b (by rw [q]; exact fun z => nomatch z)
        subst e'
        rw [hK (by rw [q]; exact fun z => nomatch z)] at e
        cases e
    have e0 : Env0 P w K mg (hidT s₁.heap H) callerA [] s₁ H := ⟨rfl, ⟨hKb, ns' hns, ⟨mb, ns' hb, hbb⟩, let ⟨mc, h1, h2⟩ := hlim; ⟨mc, ns' h1, h2⟩⟩, fun b o e => of_hidT e, Nat.le_of_eq (hidT_size _ _), trivial,
      fun b z => absurd (show b ∈ ([] : List Addr) from z) (by simp), hok, .of_eq hg⟩
    refine codeAny_mono ((F _ hKb (ns' hns)).run callerA [] s₁ H ⟨[.ref a], []⟩ [.ref a] [.ref a] _ _ (.caller hr) e0 (hbind s₁ (.ref a)) (.cons rfl .nil) (hsp H hO hS)) fun r s' h => ?_
    cases r with
    | error e => exact (hCX H e s' h).elim
    | ok fl =>
      cases fl with
      | ret u =>
        obtain ⟨v, H', os, bare, un, hok', r', q⟩ := h
        have q' : v = .bl true := q
        subst q'
        obtain rfl : u = Value.bool true := r'
        refine ⟨rfl, OldK.of_keep fun b o e => ?_, os, bare⟩
        cases q : H b with
        | none => exact un.keep b o e q (fun z => absurd (show b ∈ ([] : List Addr) from z) (by simp)) (by simp)
        | some u =>
          rcases hO b with z | ⟨ob, xs, z⟩
          · rw [q] at z
            cases z
          · obtain ⟨e1, _⟩ := hok b _ z
            obtain ⟨e2, _⟩ := hok' b _ (un.frzs b ob _ z)
            rw [e] at e1
            cases e1
            exact e2
      | _ => exact False.elim h
  cases hk : K.lookup a with
  | some o =>
    have e := KX a o hk
    rw [ha] at e
    cases e
    refine core (fun _ => none) (fun _ => .inl rfl) (.inr ⟨_, vs.toArray, _, hk, rfl, rfl, rfl, ?_, by simpa using rv⟩) (fun b u z => nomatch (show (none : Option HO) = some u from z)) (fun b z => absurd rfl z) fun z => absurd rfl z
    rw [List.size_toArray, hi.length]
    first | exact hl | omega
  | none =>
    have hat : ∀ b, (if b = a then some (HO.frz { cls := .type "list", data := .seq vs.toArray } (.lst (ns.map V.int))) else none) ≠ none → b = a := fun b z => by
      by_cases hb : b = a
      · exact hb
      · exact absurd (if_neg hb) z
    refine core (fun b => if b = a then some (.frz { cls := .type "list", data := .seq vs.toArray } (.lst (ns.map V.int))) else none) (fun b => ?_) (.inl (.inr ⟨_, if_pos rfl⟩)) (fun b u z => ?_) hat fun _ => hk
    · by_cases hb : b = a
      · exact .inr ⟨_, _, if_pos hb⟩
      · exact .inl (if_neg hb)
    · have hb := hat b (by
        intro q
        have z2 := z
        dsimp only at z2
        rw [q] at z2
        cases z2)
      subst hb
      have z' := (if_pos rfl).symm.trans z
      cases z'
      exact ⟨ha, by rw [List.length_map]; exact hl, vs, _, rv, ha⟩
/-- a law: F gives the written part, the function object, the promise over every base -/
theorem walkG {l : PySem.W.OpenLaw} {n k : Nat} {q : Program} {loose : List Str} {XP : (Str → Option Value) → Heap → Prop} {YP : World → Heap → Prop} {d : DefRec} {CX : CXT} {x : Str}
    (hn : l.most = some n) (hn2 : n ≤ sizeLine) (hdf : d.params.defaults = []) (hr : Room k callerA)
    (F : ∀ (w : World) (mg : Str → Option Value) (fa : Addr) (h : Heap), YP w h → h.Ns mainGlobals mg → mg d.name = some (.ref fa) →
      ∃ (K : PySem.W.Frag) (fd : FuncData) (sp : Sp), K.In h ∧ (∀ (s : Shared) (u : Value), BindsTo s fd ⟨[u], []⟩ [(x, u)]) ∧
        (∀ (H : Hp) (a : Addr) (ns : List Int), ns.length ≤ n → Only H → SqL K H a (ns.map V.int) → sp [.ref a] H (fun v _ => v = .bl true) fun _ _ _ => False) ∧
        ∀ base : Heap, K.In base → base.Ns mainGlobals mg → FnG l.prog w K mg base CX k fa fd [x] sp)
    (hCX : ∀ (H : Hp) (s : Shared) (e : Value) (s' : Shared), CX [] H s (fun _ _ _ => False) e s' → False) :
    PySem.W.WalkO q loose XP YP l.row.toRowW d [] (fun f vs => PySem.call f vs) := by
  refine Att.attach_call hn hdf fun w s₀ s₁ mg mb fa o pm cd doc a vs ns G Y ho hd hcd hmg hobj hints hlen hg => ?_
  obtain ⟨K, fd, sp, KX, hb, hsp, hF⟩ := F w mg fa _ Y G.T.g hmg
  exact law_callG KX G.T.g G.T.b G.T.builtins G.T.nolimit hg hobj hints (Nat.le_trans hlen hn2) hr hF hb (fun H hO hS => hsp H a ns hlen hO hS) fun H e s' => hCX H s₁ e s'
end GX

set_option Elab.async false
set_option linter.all false
set_option maxRecDepth 100000
set_option maxHeartbeats 4000000
/-! G1: data of any depth (dicts too) as it lies in the tracked heap, now or for good; its repr; the freezing of lists and dicts. -/
namespace GX
open PySem PySem.Spec PyProof.Rows L2

/-! ### data -/
def kD : Key → PyData
  | .inl i => .int i
  | .inr x => .str x
/-- L a u: at a one reads u -/
abbrev Rdr := Addr → HO → Prop
mutual
inductive D (L : Rdr) : V → PyData → Prop
  | non : D L .non .none
  | bl (b : Bool) : D L (.bl b) (.bool b)
  | int (i : Int) : D L (.int i) (.int i)
  | str (x : Str) : D L (.str x) (.str x)
  | lst {a : Addr} {xs : List V} {ds : List PyData} : L a (.lst xs) → DA L xs ds → D L (.ref a) (.list ds)
  | tup {a : Addr} {xs : List V} {ds : List PyData} : L a (.tup xs) → DA L xs ds → D L (.ref a) (.tuple ds)
  | dic {a : Addr} {kvs : List (Key × V)} {ds : List (PyData × PyData)} : L a (.dK kvs) → DK L kvs ds → D L (.ref a) (.dict ds)
inductive DA (L : Rdr) : List V → List PyData → Prop
  | nil : DA L [] []
  | cons {v : V} {vs : List V} {d : PyData} {ds : List PyData} : D L v d → DA L vs ds → DA L (v :: vs) (d :: ds)
inductive DK (L : Rdr) : List (Key × V) → List (PyData × PyData) → Prop
  | nil : DK L [] []
  | cons {k : Key} {v : V} {kvs : List (Key × V)} {d : PyData} {ds : List (PyData × PyData)} : D L v d → DK L kvs ds → DK L ((k, v) :: kvs) ((kD k, d) :: ds)
end
mutual
theorem D.mono {L L' : Rdr} (h : ∀ a u, L a u → L' a u) : ∀ {v : V} {d : PyData}, D L v d → D L' v d
  | _, _, .non => .non
  | _, _, .bl b => .bl b
  | _, _, .int i => .int i
  | _, _, .str x => .str x
  | _, _, .lst l r => .lst (h _ _ l) (DA.mono h r)
  | _, _, .tup l r => .tup (h _ _ l) (DA.mono h r)
  | _, _, .dic l r => .dic (h _ _ l) (DK.mono h r)
theorem DA.mono {L L' : Rdr} (h : ∀ a u, L a u → L' a u) : ∀ {v : List V} {d : List PyData}, DA L v d → DA L' v d
  | _, _, .nil => .nil
  | _, _, .cons a b => .cons (D.mono h a) (DA.mono h b)
theorem DK.mono {L L' : Rdr} (h : ∀ a u, L a u → L' a u) : ∀ {v : List (Key × V)} {d : List (PyData × PyData)}, DK L v d → DK L' v d
  | _, _, .nil => .nil
  | _, _, .cons a b => .cons (D.mono h a) (DK.mono h b)
end
theorem DA.len {L : Rdr} : ∀ {v : List V} {d : List PyData}, DA L v d → v.length = d.length
  | _, _, .nil => rfl
  | _, _, .cons _ b => congrArg Nat.succ b.len
theorem DA.app {L : Rdr} : ∀ {v v' : List V} {d d' : List PyData}, DA L v d → DA L v' d' → DA L (v ++ v') (d ++ d')
  | _, _, _, _, .nil, h => h
  | _, _, _, _, .cons a b, h => .cons a (b.app h)
theorem DA.get {L : Rdr} : ∀ {vs : List V} {ds : List PyData} {i : Nat} {v : V}, DA L vs ds → vs[i]? = some v → ∃ d, ds[i]? = some d ∧ D L v d
  | _, _, i, _, .nil, e => by simp at e
  | _, _, 0, v, .cons a _, e => ⟨_, rfl, by
    have e' := Option.some.inj (show some _ = some v from e)
    rw [← e']
    exact a⟩
  | _, _, i + 1, v, .cons _ b, e => by
    obtain ⟨d, h1, h2⟩ := DA.get (i := i) b (by simpa using e)
    exact ⟨d, by simpa using h1, h2⟩
theorem DA.getD {L : Rdr} : ∀ {vs : List V} {ds : List PyData} {i : Nat} {d : PyData}, DA L vs ds → ds[i]? = some d → ∃ v, vs[i]? = some v ∧ D L v d
  | _, _, i, _, .nil, e => by simp at e
  | _, _, 0, d, .cons a _, e => ⟨_, rfl, by
    have e' := Option.some.inj (show some _ = some d from e)
    rw [← e']
    exact a⟩
  | _, _, i + 1, v, .cons _ b, e => by
    obtain ⟨d, h1, h2⟩ := DA.getD (i := i) b (by simpa using e)
    exact ⟨d, by simpa using h1, h2⟩

/-- as it lies now -/
def Now (K : PySem.W.Frag) (H : Hp) : Rdr := fun a u => match u with
  | .lst xs => SqL K H a xs
  | .tup xs => SqT K H a xs
  | .dK kvs => Rd H a (.dK kvs)
  | _ => False
/-- for good: tuples, and what is frozen -/
def Per (H : Hp) : Rdr := fun a u => (∃ xs, u = .tup xs ∧ H a = some (.tup xs)) ∨ ∃ o, H a = some (.frz o u)
theorem D.now {K : PySem.W.Frag} {H : Hp} {v : V} {d : PyData} (h : D (Per H) v d) : D (Now K H) v d := by
  -- only lists, tuples, dicts are looked at
  have key : ∀ a u, Per H a u → (match u with | .lst _ => True | .tup _ => True | .dK _ => True | _ => False) → Now K H a u := by
    intro a u h k
    rcases h with ⟨xs, rfl, e⟩ | ⟨o, e⟩
    · exact .inl (.inl e)
    · cases u <;> first | exact k.elim | exact .inl (.inr ⟨o, e⟩) | exact .inr ⟨o, e⟩
  have go : ∀ {L' : Rdr}, (∀ a u, Per H a u → (match u with | .lst _ => True | .tup _ => True | .dK _ => True | _ => False) → L' a u) → ∀ {v : V} {d : PyData}, D (Per H) v d → D L' v d := by
    intro L' hL v d h
    refine D.rec (motive_1 := fun v d _ => D L' v d) (motive_2 := fun vs ds _ => DA L' vs ds) (motive_3 := fun vs ds _ => DK L' vs ds) .non (fun b => .bl b) (fun i => .int i) (fun x => .str x) ?_ ?_ ?_ .nil ?_ .nil ?_ h
    · exact fun l _ r => .lst (hL _ _ l trivial) r
    · exact fun l _ r => .tup (hL _ _ l trivial) r
    · exact fun l _ r => .dic (hL _ _ l trivial) r
    · exact fun _ _ a b => .cons a b
    · exact fun _ _ a b => .cons a b
  exact go key h

/-! ### what never changes -/
def Imm : HO → Bool
  | .lst _ | .dK _ | .dT _ | .set _ _ | .tbl _ => false
  | _ => true
/-- what never changes is as it was -/
def Mo (H H' : Hp) : Prop := ∀ a o, Imm o = true → H a = some o → H' a = some o
/-- all but p is as it was -/
def Bt (p : Addr) (H H' : Hp) : Prop := ∀ a o, a ≠ p → H a = some o → H' a = some o
theorem Mo.refl (H : Hp) : Mo H H := fun _ _ _ h => h
theorem Mo.trans {H H1 H2 : Hp} (a : Mo H H1) (b : Mo H1 H2) : Mo H H2 := fun c o i h => b c o i (a c o i h)
theorem Same.mo {H H' : Hp} (s : Same H H') : Mo H H' := fun a o _ h => s a o h
theorem Bt.refl (p : Addr) (H : Hp) : Bt p H H := fun _ _ _ h => h
theorem Bt.trans {p : Addr} {H H1 H2 : Hp} (a : Bt p H H1) (b : Bt p H1 H2) : Bt p H H2 := fun c o i h => b c o i (a c o i h)
theorem Same.bt {p : Addr} {H H' : Hp} (s : Same H H') : Bt p H H' := fun a o _ h => s a o h
theorem Bt.mo {p : Addr} {H H' : Hp} {o : HO} (s : Bt p H H') (h : H p = some o) (i : Imm o = false) : Mo H H' := fun a u k e => by
  refine s a u (fun z => ?_) e
  subst z
  rw [h] at e
  cases e
  rw [i] at k
  cases k
theorem Bt.upd {p : Addr} {H H' : Hp} {o : HO} (s : Bt p H H') : Bt p H (upd H' p o) := fun a u n e => by
  rw [upd_ne n]
  exact s a u n e
theorem Same.new {H : Hp} {p : Addr} {o : HO} (h : H p = none) : Same H (upd H p o) := fun a u e => by
  rw [upd_ne (ne_of_none e h)]
  exact e
theorem Bt.free {p q : Addr} {H H' : Hp} (s : Bt p H H') (hq : H' q = none) (n : q ≠ p) : H q = none := by
  cases e : H q with
  | none => rfl
  | some u =>
    rw [s q u n e] at hq
    cases hq
theorem Per.mo {H H' : Hp} (m : Mo H H') : ∀ a u, Per H a u → Per H' a u := by
  intro a u h
  rcases h with ⟨xs, rfl, e⟩ | ⟨o, e⟩
  · exact .inl ⟨xs, rfl, m _ _ rfl e⟩
  · exact .inr ⟨o, m _ _ rfl e⟩
theorem D.mo {H H' : Hp} {v : V} {d : PyData} (h : D (Per H) v d) (m : Mo H H') : D (Per H') v d := D.mono (Per.mo m) h
theorem DA.mo {H H' : Hp} {v : List V} {d : List PyData} (h : DA (Per H) v d) (m : Mo H H') : DA (Per H') v d := DA.mono (Per.mo m) h

/-! ### freezing -/
def Fz : HO → Bool
  | .lst _ | .dK _ => true
  | _ => false
section
variable {X : Cx} {pins : List (Addr × Obj)} {σ : L2.St} {H : Hp} {s : Shared} {a : Addr} {u : HO}
theorem Inv.freeze (I : Inv X pins σ H s) (e : H a = some u) (f : Fz u = true) : ∃ o, Inv X pins σ (upd H a (.frz o u)) s := by
  obtain ⟨o, ho⟩ : ∃ o, s.heap.get? a = some o := by
    have z := I.hok a u e
    cases u with
    | lst xs => obtain ⟨_, _, _, _, q⟩ := z; exact ⟨_, q⟩
    | dK kvs => obtain ⟨_, _, _, _, o, _, _, q, _⟩ := z; exact ⟨o, q⟩
    | _ => cases f
  have ne : ∀ b w, H b = some w → w ≠ u → b ≠ a := fun b w hb n z => by
    subst z
    rw [e] at hb
    exact n (Option.some.inj hb).symm
  have nn : ∀ b, H b = none → b ≠ a := fun b hb z => by
    subst z
    rw [e] at hb
    cases hb
  have u1 : ∀ x, u ≠ .own x := fun x z => by rw [z] at f; cases f
  have u2 : ∀ x, u ≠ .tup x := fun x z => by rw [z] at f; cases f
  have u3 : ∀ x y, u ≠ .frz x y := fun x y z => by rw [z] at f; cases f
  have u4 : ∀ x, u ≠ .tbl x := fun x z => by rw [z] at f; cases f
  have un : Un X.fs [] H (upd H a (.frz o u)) s.heap s.heap := {
    keep := fun b ob q _ _ _ => q
    slot := fun b ob q _ _ _ => ⟨ob.slots, q⟩
    free := fun b ob _ n _ => by rw [upd_ne (nn b n)]; exact n
    there := fun b ob q _ => ⟨ob, q⟩
    tups := fun b xs q => by rw [upd_ne (ne b _ q (fun z => u2 _ z.symm))]; exact q
    frzs := fun b ob v q => by rw [upd_ne (ne b _ q (fun z => u3 _ _ z.symm))]; exact q
    tbls := fun b ps q => ⟨#[], by rw [upd_ne (ne b _ q (fun z => u4 _ z.symm)), q]; simp⟩ }
  have ok : HOk X.prog X.w (upd H a (.frz o u)) s.heap := fun b ob q => by
    have st : ∀ {c : Addr} {w : HO}, ObjOk X.prog X.w H s.heap c w → ObjOk X.prog X.w (upd H a (.frz o u)) s.heap c w := fun {c w} z =>
      z.stay (fun _ _ _ q => q) (fun d q => by rw [upd_ne (ne d _ q (fun z => u1 _ z.symm))]; exact q) (fun d xs q => by rw [upd_ne (ne d _ q (fun z => u2 _ z.symm))]; exact q)
    by_cases hb : b = a
    · subst hb
      rw [upd_same] at q
      cases q
      exact ⟨ho, st (I.hok b u e)⟩
    · rw [upd_ne hb] at q
      exact st (I.hok b ob q)
  have J := I.un (t' := s.toks) un ok
  obtain ⟨hp, g, d, t, os⟩ := s
  exact ⟨o, J⟩
end
/-- the new list, or dict, is frozen -/
def tFz (t : TE) : TE := fun σ H Q => t σ H fun v H1 => ∃ a u, v = .ref a ∧ H1 a = some u ∧ Fz u = true ∧ ∀ o, Q v (upd H1 a (.frz o u))
theorem pe_fz {X : Cx} {e : Expr} {t : TE} (h : PE X e t) : PE X e (tFz t) := by
  refine ⟨fun pins s σ H Q I q => thn (h.run pins s σ H _ I q) fun w s1 ⟨v, H1, I1, r1, a, u, ev, ea, f, q1⟩ => ?_⟩
  obtain ⟨o, J⟩ := Inv.freeze I1 ea f
  exact ⟨v, _, J, r1, q1 o⟩
theorem Mo.fz {H : Hp} {a : Addr} {o : Obj} {u : HO} (e : H a = some u) (f : Fz u = true) : Mo H (upd H a (.frz o u)) := fun b w i q => by
  have n : b ≠ a := fun z => by
    subst z
    rw [e] at q
    cases q
    cases u <;> first | exact absurd (show false = true from f) (by decide) | exact absurd (show false = true from i) (by decide)
  rw [upd_ne n]
  exact q

/-! ### sizes -/
def ascT (x : Str) : Bool := x.cps.toList.all fun c => decide (c < 128)
mutual
def wt : PyData → Nat
  | .none => 4
  | .bool _ => 5
  | .int i => i.natAbs.log2 + 4
  | .str x => x.length + 2
  | .list xs => wtA xs + 2
  | .tuple xs => wtA xs + 3
  | .dict kvs => wtK kvs + 2
def wtA : List PyData → Nat
  | [] => 0
  | x :: xs => wt x + 2 + wtA xs
def wtK : List (PyData × PyData) → Nat
  | [] => 0
  | (k, v) :: r => wt k + wt v + 4 + wtK r
end
mutual
def asc : PyData → Bool
  | .none | .bool _ | .int _ => true
  | .str x => ascT x
  | .list xs | .tuple xs => ascA xs
  | .dict kvs => ascK kvs
def ascA : List PyData → Bool
  | [] => true
  | x :: xs => asc x && ascA xs
def ascK : List (PyData × PyData) → Bool
  | [] => true
  | (k, v) :: r => asc k && asc v && ascK r
end
/-- small data: n its weight, m its depth -/
structure Gd (n m : Nat) (d : PyData) : Prop where
  w : wt d ≤ n
  dp : d.depth ≤ m
  as : asc d = true
theorem Gd.mono {n m n' m' : Nat} {d : PyData} (g : Gd n m d) (h1 : n ≤ n') (h2 : m ≤ m') : Gd n' m' d := ⟨Nat.le_trans g.w h1, Nat.le_trans g.dp h2, g.as⟩
theorem slen_app (a b : Str) : (a ++ b).length = a.length + b.length := strLen_append a b
theorem join_len2 : ∀ ts : List Str, (Str.join ", " ts).length ≤ (ts.map (·.length)).sum + 2 * ts.length
  | [] => by show (0 : Nat) ≤ _; exact Nat.zero_le _
  | [x] => by show x.length ≤ _; simp
  | x :: y :: r => by
    have ih := join_len2 (y :: r)
    show (x ++ ", " ++ Str.join ", " (y :: r)).length ≤ _
    rw [slen_app, slen_app]
    have e : (", " : Str).length = 2 := rfl
    rw [e]
    simp only [List.map_cons, List.sum_cons, List.length_cons] at ih ⊢
    omega
theorem textFrom_len2 : ∀ (ts : List Str) (k : Nat) (acc : Str), (textFrom k acc ts).length ≤ acc.length + (ts.map (·.length)).sum + 2 * ts.length
  | [], k, acc => by show acc.length ≤ _; simp
  | t :: r, k, acc => by
    have ih := textFrom_len2 r (k + 1) (acc ++ (if k > 0 then ", " else "" : String) ++ t)
    show (textFrom (k + 1) (acc ++ (if k > 0 then ", " else "" : String) ++ t) r).length ≤ _
    have e : (Str.ofString (if k > 0 then ", " else "")).length ≤ 2 := by
      split <;> decide
    rw [slen_app, slen_app] at ih
    simp only [List.map_cons, List.sum_cons, List.length_cons]
    omega
mutual
theorem shown_le : ∀ d : PyData, asc d = true → wt d ≤ 1900 → d.shown.length ≤ 10 * wt d
  | .none, _, _ => by decide
  | .bool b, _, _ => by cases b <;> decide
  | .int i, _, h => by
    simp only [PyData.shown, wt]
    have := int_text_length_le (a := i) (k := i.natAbs.log2 + 1) (by omega) (by omega)
    show (Str.ofString (toString i)).length ≤ _
    rw [PySem.ofString_length]
    omega
  | .str x, h, _ => by
    simp only [PyData.shown, wt]
    have hx : ∀ c ∈ x.cps.toList, c < 16 ^ 8 := fun c hc => by
      have := List.all_eq_true.mp (show ascT x = true by simpa only [asc] using h) c hc
      have := of_decide_eq_true this
      omega
    have := StrLaws.reprText_len x hx
    omega
  | .list xs, h, g => by
    simp only [asc] at h
    simp only [wt] at g
    have ih := shown_leA xs h (by omega)
    simp only [PyData.shown, wt]
    unfold listText
    rw [slen_app]
    have h1 := textFrom_len2 (PyData.shownAll xs) 0 "["
    have e : ("[" : Str).length = 1 := rfl
    have e2 : ("]" : Str).length = 1 := rfl
    rw [e] at h1
    rw [e2]
    omega
  | .tuple xs, h, g => by
    simp only [asc] at h
    simp only [wt] at g
    have ih := shown_leA xs h (by omega)
    simp only [PyData.shown, wt]
    unfold tupleText
    rw [slen_app, slen_app]
    have h1 := join_len2 (PyData.shownAll xs)
    have e : ("(" : Str).length = 1 := rfl
    have e2 : (Str.ofString (if (PyData.shownAll xs).length == 1 then ",)" else ")")).length ≤ 2 := by
      split <;> decide
    rw [e]
    omega
  | .dict kvs, h, g => by
    simp only [asc] at h
    simp only [wt] at g
    have ih := shown_leK kvs h (by omega)
    simp only [PyData.shown, wt]
    unfold dictText
    rw [slen_app, slen_app]
    have h1 := join_len2 (PyData.shownKv kvs)
    have e : ("{" : Str).length = 1 := rfl
    have e2 : ("}" : Str).length = 1 := rfl
    rw [e, e2]
    omega
theorem shown_leA : ∀ xs : List PyData, ascA xs = true → wtA xs ≤ 1900 → ((PyData.shownAll xs).map (·.length)).sum + 2 * (PyData.shownAll xs).length ≤ 10 * wtA xs
  | [], _, _ => by simp [PyData.shownAll, wtA]
  | x :: xs, h, g => by
    simp only [ascA, Bool.and_eq_true] at h
    simp only [wtA] at g
    have h1 := shown_le x h.1 (by omega)
    have h2 := shown_leA xs h.2 (by omega)
    simp only [PyData.shownAll, wtA, List.map_cons, List.sum_cons, List.length_cons]
    omega
theorem shown_leK : ∀ xs : List (PyData × PyData), ascK xs = true → wtK xs ≤ 1900 → ((PyData.shownKv xs).map (·.length)).sum + 2 * (PyData.shownKv xs).length ≤ 10 * wtK xs
  | [], _, _ => by simp [PyData.shownKv, wtK]
  | (k, v) :: xs, h, g => by
    simp only [ascK, Bool.and_eq_true] at h
    simp only [wtK] at g
    have h1 := shown_le k h.1.1 (by omega)
    have h1' := shown_le v h.1.2 (by omega)
    have h2 := shown_leK xs h.2 (by omega)
    simp only [PyData.shownKv, wtK, List.map_cons, List.sum_cons, List.length_cons]
    rw [slen_app, slen_app]
    have e : (": " : Str).length = 2 := rfl
    rw [e]
    omega
end
mutual
theorem showable_of : ∀ d : PyData, wt d ≤ 1900 → d.showable = true
  | .none, _ => by simp only [PyData.showable]
  | .bool _, _ => by simp only [PyData.showable]
  | .str _, _ => by simp only [PyData.showable]
  | .int i, h => by
    simp only [wt] at h
    simp only [PyData.showable]
    exact decide_eq_true (by omega)
  | .list xs, h => by
    simp only [wt] at h
    simp only [PyData.showable]
    exact showable_ofA xs (by omega)
  | .tuple xs, h => by
    simp only [wt] at h
    simp only [PyData.showable]
    exact showable_ofA xs (by omega)
  | .dict xs, h => by
    simp only [wt] at h
    simp only [PyData.showable]
    exact showable_ofK xs (by omega)
theorem showable_ofA : ∀ d : List PyData, wtA d ≤ 1900 → PyData.showableAll d = true
  | [], _ => by simp only [PyData.showableAll]
  | x :: xs, h => by
    simp only [wtA] at h
    simp only [PyData.showableAll, showable_of x (by omega), showable_ofA xs (by omega), Bool.and_self]
theorem showable_ofK : ∀ d : List (PyData × PyData), wtK d ≤ 1900 → PyData.showableKv d = true
  | [], _ => by simp only [PyData.showableKv]
  | (k, v) :: xs, h => by
    simp only [wtK] at h
    simp only [PyData.showableKv, showable_of k (by omega), showable_of v (by omega), showable_ofK xs (by omega), Bool.and_self]
end

/-! ### what the model reads -/
/-- sys.modules stands in the written part, a dict -/
def KSys (K : PySem.W.Frag) : Prop := ∃ o es n, K.lookup sysModules = some o ∧ o.data = .dict es n
section
variable {X : Cx} {pins : List (Addr × Obj)} {σ : L2.St} {H : Hp} {s : Shared}
mutual
theorem D.reads (KS : KSys X.K) (I : Inv X pins σ H s) : ∀ (d : PyData) (v : V) (u : Value), D (Now X.K H) v d → L2.RelV v u → ∃ as, Reads s.heap u d as ∧ sysModules ∉ as
  | .none, _, _, h, r => by
    cases h
    cases r
    exact ⟨_, Reads.none, fun z => nomatch z⟩
  | .bool b, _, _, h, r => by
    cases h
    cases r
    exact ⟨_, Reads.bool b, fun z => nomatch z⟩
  | .int i, _, _, h, r => by
    cases h
    obtain ⟨t, rfl⟩ := r
    exact ⟨_, Reads.int i t, fun z => nomatch z⟩
  | .str x, _, _, h, r => by
    cases h
    obtain ⟨t, rfl⟩ := r
    exact ⟨_, Reads.str x t, fun z => nomatch z⟩
  | .list ds, _, _, h, r => by
    cases h with
    | lst hs ha =>
      rename_i a xs
      cases r
      obtain ⟨its, rv, ⟨o, n, ho, hc, _, hd⟩, _⟩ := I.list (show SqL X.K H a xs from hs)
      obtain ⟨as, hr, hn⟩ := DA.reads KS I ds _ its ha rv
      refine ⟨_, Reads.list ho hc hd hr, fun z => ?_⟩
      rcases List.mem_cons.mp z with z | z
      · obtain ⟨o', es, m, e1, e2⟩ := KS
        have e3 := I.kIn _ _ e1
        rw [z, ho] at e3
        cases e3
        rw [hd] at e2
        cases e2
      · exact hn z
  | .tuple ds, _, _, h, r => by
    cases h with
    | tup hs ha =>
      rename_i a xs
      cases r
      obtain ⟨its, rv, ⟨o, ho, hc, n, hd⟩, _⟩ := I.tuple (show SqT X.K H a xs from hs)
      obtain ⟨as, hr, hn⟩ := DA.reads KS I ds _ its ha rv
      exact ⟨_, Reads.tuple ho hc hd hr, hn⟩
  | .dict ds, _, _, h, r => by
    cases h with
    | dic hs ha =>
      rename_i a kvs
      cases r
      obtain ⟨hz, hsys, vs, rel, hd⟩ := dk_rd I.hok (show Rd H a (.dK kvs) from hs)
      obtain ⟨as, hp, hn⟩ := DK.reads KS I ds _ vs ha rel
      refine ⟨_, PyProof.V.reads_dictOf (enc := kD) (fun k key e => ?_) hd hp, fun z => ?_⟩
      · rcases keyIs_shape (show keyIs k key = true from e) with ⟨i, t, rfl, rfl⟩ | ⟨x, t, rfl, rfl⟩
        · exact Reads.int i t
        · exact Reads.str x t
      · rcases List.mem_cons.mp z with z | z
        · rw [← z] at hsys
          exact absurd hsys (by decide)
        · exact hn z
theorem DA.reads (KS : KSys X.K) (I : Inv X pins σ H s) : ∀ (ds : List PyData) (vs : List V) (us : List Value), DA (Now X.K H) vs ds → Vals vs us → ∃ as, ReadsAll s.heap us ds as ∧ sysModules ∉ as
  | [], _, _, h, r => by
    cases h
    cases r
    exact ⟨_, ReadsAll.nil, fun z => nomatch z⟩
  | d :: ds, _, _, h, r => by
    cases h with
    | cons h1 h2 =>
      cases r with
      | cons r1 r2 =>
        obtain ⟨as, q1, n1⟩ := D.reads KS I d _ _ h1 r1
        obtain ⟨bs, q2, n2⟩ := DA.reads KS I ds _ _ h2 r2
        exact ⟨_, ReadsAll.cons q1 q2, fun z => (List.mem_append.mp z).elim n1 n2⟩
theorem DK.reads (KS : KSys X.K) (I : Inv X pins σ H s) : ∀ (ds : List (PyData × PyData)) (kvs : List (Key × V)) (us : List (Key × Value)), DK (Now X.K H) kvs ds → KV kvs us → ∃ as, PyProof.V.PairsRead s.heap kD us ds as ∧ sysModules ∉ as
  | [], _, _, h, r => by
    cases h
    cases r
    exact ⟨_, PyProof.V.PairsRead.nil, fun z => nomatch z⟩
  | (k, d) :: ds, _, _, h, r => by
    cases h with
    | cons h1 h2 =>
      cases r with
      | @cons _ p _ ps r1 r2 =>
        obtain ⟨k', u⟩ := p
        obtain ⟨e1, e2⟩ := r1
        dsimp only at e1 e2
        subst e1
        obtain ⟨as, q1, n1⟩ := D.reads KS I d _ _ h1 e2
        obtain ⟨bs, q2, n2⟩ := DK.reads KS I ds _ _ h2 r2
        exact ⟨_, PyProof.V.PairsRead.cons q1 q2, fun z => (List.mem_append.mp z).elim n1 n2⟩
end
end

/-! ### repr -/
def rRepr (K : PySem.W.Frag) : List V → Hp → VK → Prop := fun xs H Q => ∃ v d, xs = [v] ∧ D (Now K H) v d ∧ Gd 1900 60 d ∧ Q (.str d.shown) H
section
variable {X : Cx}
theorem call_repr (KS : KSys X.K) (hg : X.A.guards = some []) (hu : X.A.units + 200 < cLine) : CallR X (.builtin "repr") (rRepr X.K) := by
  intro pins s σ H xs us Q I r h
  obtain ⟨v, d, rfl, hd, g, q⟩ := h
  obtain ⟨u, rfl, ru⟩ := vals1 r
  have hsz : d.shown.length ≤ sizeLine := by
    have := shown_le d g.as g.w
    have := g.w
    rw [sizeLine_eq]
    omega
  obtain ⟨as, hr, hn⟩ := D.reads KS I d v u hd ru
  have fin : ∀ (h' : Heap) (t : Tok) (tk : Nat), (∀ b o, s.heap.get? b = some o → h'.get? b = some o) → EP X pins σ Q (.str d.shown t) { s with heap := h', toks := tk } :=
    fun h' t tk k => ⟨.str d.shown, H, I.kept k, ⟨t, rfl⟩, q⟩
  cases hr with
  | none => exact PySem.P.repr_of_none (by simpa only [PyData.shown] using fin s.heap _ _ fun _ _ z => z)
  | bool b => exact PySem.P.repr_of_bool (by simpa only [PyData.shown] using fin s.heap _ _ fun _ _ z => z)
  | int i t =>
    have hw := g.w
    simp only [wt] at hw
    exact PySem.P.repr_of_int (by omega) (by simpa only [PyData.shown] using fin s.heap _ _ fun _ _ z => z)
  | str x t => exact PySem.P.repr_of_str (by simpa only [PyData.shown] using fin s.heap _ _ fun _ _ z => z) (by simpa only [PyData.shown] using hsz)
  | list h1 h2 h3 h4 => exact repr_of_reads' (Reads.list h1 h2 h3 h4) (showable_of _ g.w) (fun _ => hn) hg (by have := g.dp; omega) (fun _ _ e => e) (fun h' t tk k => fin h' t tk k) hsz
  | tuple h1 h2 h3 h4 => exact repr_of_reads' (Reads.tuple h1 h2 h3 h4) (showable_of _ g.w) (fun _ => hn) hg (by have := g.dp; omega) (fun _ _ e => e) (fun h' t tk k => fin h' t tk k) hsz
  | dict h1 h2 h3 h4 h5 => exact repr_of_reads' (Reads.dict h1 h2 h3 h4 h5) (showable_of _ g.w) (fun _ => hn) hg (by have := g.dp; omega) (fun _ _ e => e) (fun h' t tk k => fin h' t tk k) hsz
end
end GX

set_option Elab.async false
set_option linter.all false
set_option maxRecDepth 100000
set_option maxHeartbeats 4000000
/-! G2: defs as bundles, the built-in names, operators over several kinds, exceptions of own classes as values. -/
namespace GX
open PySem PySem.Spec PyProof.Rows L2

/-! ### a def that a caller may use -/
structure CalG (P : Program) (w : World) (K : PySem.W.Frag) (mg : Str → Option Value) (base : Heap) (CX : CXT) (k : Nat) (x : Str) (sp : Sp) : Prop where
  ex : ∃ (f : Addr) (fd : FuncData) (ps : List Str), FnG P w K mg base CX k f fd ps sp ∧ mg x = some (.ref f) ∧ PySem.W.keepIn K (.ref f) = true ∧ Binds K fd ps []
section
variable {X : Cx} {CX : CXT} {j k : Nat} {sp : Sp} {E : XK} {x : Str} {p pos : Pos} {e : Expr} {es : List Expr} {t : TA}
theorem pe_cG (c : CalG X.prog X.w X.K X.mg X.base CX k x sp) (hr : RmG j X.A) (hk : k ≤ j) (hx : Passes CX X E) (ha : PA X (e :: es) t) (hg : Gl X x := by rfl)
    (hdb : (x == ("__debug__" : Str)) = false := by decide) (he : starEach (e :: es) X.env = (false, eval e X.env) :: starEach es X.env := by rfl) (hpl : (backTo pos (starEach es X.env)).any (·.1) = false := by rfl) :
    PE X (.Call (.Name x p) (e :: es) [] pos) (tCall sp [] E t) := by
  obtain ⟨f, fd, ps, F, hm, kp, hb⟩ := c.ex
  exact pe_callG F (hr.mono hk) hg hm kp hb .nil hx ha hdb he hpl
theorem pe_cG0 (c : CalG X.prog X.w X.K X.mg X.base CX k x sp) (hr : RmG j X.A) (hk : k ≤ j) (hx : Passes CX X E) (hg : Gl X x := by rfl) (hdb : (x == ("__debug__" : Str)) = false := by decide) :
    PE X (.Call (.Name x p) [] [] pos) (tCall sp [] E tNil) := by
  obtain ⟨f, fd, ps, F, hm, kp, hb⟩ := c.ex
  exact pe_callG0 F (hr.mono hk) hg hm kp hb .nil hx hdb
end
theorem RmG.units {k : Nat} {A : Around} (r : RmG k A) : A.units + 200 < cLine := by have := r.rm.un; omega
theorem RmG.u64 {k : Nat} {A : Around} (r : RmG k A) : A.units + 64 < cLine := by have := r.rm.un; omega
theorem RmG.u1 {k : Nat} {A : Around} (r : RmG k A) : A.units + 1 < cLine := by have := r.rm.un; omega

/-! ### the built-in names are still free -/
structure NB (mg : Str → Option Value) : Prop where
  len : mg "len" = none
  abs : mg "abs" = none
  int : mg "int" = none
  bool : mg "bool" = none
  str : mg "str" = none
  tuple : mg "tuple" = none
  list : mg "list" = none
  dict : mg "dict" = none
  set : mg "set" = none
  repr : mg "repr" = none
  isinstance : mg "isinstance" = none
  range : mg "range" = none
  enumerate : mg "enumerate" = none
  zip : mg "zip" = none
  sorted : mg "sorted" = none
  sum : mg "sum" = none
  max : mg "max" = none
  min : mg "min" = none
  all : mg "all" = none
  any : mg "any" = none
  VE : mg "ValueError" = none
theorem bt_len : bootBuiltins "len" = some (.builtin "len") := by decide +kernel
theorem bt_abs : bootBuiltins "abs" = some (.builtin "abs") := by decide +kernel
theorem bt_repr : bootBuiltins "repr" = some (.builtin "repr") := by decide +kernel
theorem bt_isinstance : bootBuiltins "isinstance" = some (.builtin "isinstance") := by decide +kernel
theorem bt_sorted : bootBuiltins "sorted" = some (.builtin "sorted") := by decide +kernel
theorem bt_sum : bootBuiltins "sum" = some (.builtin "sum") := by decide +kernel
theorem bt_max : bootBuiltins "max" = some (.builtin "max") := by decide +kernel
theorem bt_min : bootBuiltins "min" = some (.builtin "min") := by decide +kernel
theorem bt_all : bootBuiltins "all" = some (.builtin "all") := by decide +kernel
theorem bt_any : bootBuiltins "any" = some (.builtin "any") := by decide +kernel
theorem bt_int : bootBuiltins "int" = some (.type "int") := by decide +kernel
theorem bt_bool : bootBuiltins "bool" = some (.type "bool") := by decide +kernel
theorem bt_str : bootBuiltins "str" = some (.type "str") := by decide +kernel
theorem bt_tuple : bootBuiltins "tuple" = some (.type "tuple") := by decide +kernel
theorem bt_list : bootBuiltins "list" = some (.type "list") := by decide +kernel
theorem bt_dict : bootBuiltins "dict" = some (.type "dict") := by decide +kernel
theorem bt_set : bootBuiltins "set" = some (.type "set") := by decide +kernel
theorem bt_range : bootBuiltins "range" = some (.type "range") := by decide +kernel
theorem bt_enumerate : bootBuiltins "enumerate" = some (.type "enumerate") := by decide +kernel
theorem bt_zip : bootBuiltins "zip" = some (.type "zip") := by decide +kernel
theorem bt_VE : bootBuiltins "ValueError" = some (.type "ValueError") := by decide +kernel
/-- a built-in type as a value -/
theorem pe_ty {X : Cx} {x : Str} {n : String} {pos : Pos} (hm : X.mg x = none) (hv : bootBuiltins x = some (.type n)) (hg : Gl X x := by rfl) (hn : x ≠ "__name__" := by decide) (hd : (x == ("__debug__" : Str)) = false := by decide) : PE X (.Name x pos) (tC (.ty n)) :=
  pe_bltn hg hm hv rfl hn hd
/-- an own class as a value -/
theorem pe_own {X : Cx} {x : Str} {C : Addr} {pos : Pos} (hm : X.mg x = some (.ref C)) (hg : Gl X x := by rfl) (hd : (x == ("__debug__" : Str)) = false := by decide) : PE X (.Name x pos) (tC (.ref C)) :=
  pe_glob hg hm rfl hd

/-! ### ways joined -/
def tCutE (t : TE) : TE := fun σ H Q => ∃ Mid : V → Hp → Prop, t σ H Mid ∧ ∀ v H', Mid v H' → Q v H'
def tCutT (t : TT) : TT := fun σ H Q => ∃ Mid : Bool → Hp → Prop, t σ H Mid ∧ ∀ v H', Mid v H' → Q v H'
def tCutS (t u : TS) : TS := fun D σ H => ∃ Mid : L2.St → Hp → Prop, t { D with nx := Mid } σ H ∧ ∀ σ' H', Mid σ' H' → u D σ' H'
section
variable {X : Cx}
theorem pe_cut {e : Expr} {t : TE} (h : PE X e t) : PE X e (tCutE t) :=
  ⟨fun pins s σ H _ I ⟨Mid, q1, q2⟩ => thn (h.run pins s σ H Mid I q1) fun _ _ ⟨v, H1, I1, r, m⟩ => ⟨v, H1, I1, r, q2 v H1 m⟩⟩
theorem pt_cut {e : Expr} {t : TT} (h : PT X e t) : PT X e (tCutT t) :=
  ⟨fun pins s σ H _ I ⟨Mid, q1, q2⟩ => thn (h.run pins s σ H Mid I q1) fun v _ ⟨H1, I1, m⟩ => ⟨H1, I1, q2 v H1 m⟩⟩
theorem pss_ct {st : Stmt} {rest : List Stmt} {t u : TS} (h1 : PS X st t) (h2 : PSs X rest u) : PSs X (st :: rest) (tCutS t u) := by
  refine ⟨fun pins s σ H D I ⟨Mid, q1, q2⟩ => wpAny_execs_cons (thn (h1.run pins s σ H { D with nx := Mid } I q1) fun f s1 q => ?_)⟩
  cases f with
  | next =>
    obtain ⟨σ', H', I', q⟩ := q
    exact h2.run pins s1 σ' H' D I' (q2 σ' H' q)
  | ret v => exact q
  | brk => exact q
  | cont => exact q
end

/-! ### operators over several kinds -/
theorem OpR.or {X : Cx} {f : Value → Value → Sem Value} {r r' : R2} (h : OpR X f r) (h' : OpR X f r') : OpR X f (fun x y H Q => r x y H Q ∨ r' x y H Q) := by
  intro pins s σ H x y v u Q I rx ry q
  rcases q with q | q
  · exact h pins s σ H x y v u Q I rx ry q
  · exact h' pins s σ H x y v u Q I rx ry q
def rAddI : R2 := rI0 fun i j => .int (i + j)
def rAddT : R2 := fun x y H Q => ∃ i j, x = .str i ∧ y = .str j ∧ i.length + j.length ≤ sizeLine ∧ Q (.str (i ++ j)) H
/-- + of ints, of texts, of lists, of tuples -/
def rAddA (K : PySem.W.Frag) : R2 := fun x y H Q => rAddI x y H Q ∨ rAddT x y H Q ∨ rCat x y H Q ∨ rCatA K x y H Q
def rEqS : R2 := rEq
def rEqA (K : PySem.W.Frag) : R2 := fun x y H Q => rEq x y H Q ∨ rEqD K x y H Q
def rNeA (K : PySem.W.Frag) : R2 := fun x y H Q => rNe x y H Q ∨ rNeD K x y H Q
section
variable {X : Cx}
theorem op_addA : OpR X (binaryOp .Add) (rAddA X.K) := OpR.or op_add (OpR.or op_add_str (OpR.or op_cat op_catA))
theorem op_eqA (hu : X.A.units + 64 < cLine) : OpR X (compareOp .Eq) (rEqA X.K) := OpR.or op_eq (op_eqD hu)
theorem op_neA (hu : X.A.units + 64 < cLine) : OpR X (compareOp .NotEq) (rNeA X.K) := OpR.or op_ne (op_neD hu)
/-- (10 ** 60) ** 5 -/
def rPowB : R2 := fun x y H Q => x = .int (10 ^ 60) ∧ y = .int 5 ∧ Q (.int (10 ^ 300)) H
theorem op_powB : OpR X (binaryOp .Pow) rPowB := by
  intro pins s σ H x y v u Q I rx ry q
  obtain ⟨rfl, rfl, q⟩ := q
  obtain ⟨t, rfl⟩ := rx
  obtain ⟨t', rfl⟩ := ry
  exact PySem.AutoIntOps.pow_4 (by decide) (by decide) (by decide) (by decide) (by decide +kernel) ⟨.int (10 ^ 300), H, I.tok _, ⟨_, rfl⟩, q⟩
def rPowA : R2 := fun x y H Q => rI CPow (fun i j => .int (i ^ j.toNat)) x y H Q ∨ rPowB x y H Q
theorem op_powA : OpR X (binaryOp .Pow) rPowA := OpR.or op_pow op_powB
end
end GX

set_option Elab.async false
set_option linter.all false
set_option maxRecDepth 100000
set_option maxHeartbeats 4000000
/-! G3: exceptions of own classes as values: their attributes, isinstance of them. -/
namespace GX
open PySem PySem.Spec PyProof.Rows L2

/-- at e: an exception of the class at C, its dict at d; it may have flown -/
def exv (e C d : Addr) : HO := .ext fun h => ∃ (o : Obj) (vs : Array Value), h.get? e = some o ∧ o.cls = .ref C ∧ o.dict = some d ∧ o.data = .fields vs
/-- an exception, its class, its attributes -/
def ExAt (H : Hp) (e C : Addr) (fs : List (Str × V)) : Prop := ∃ d, (H e = some (exo e C (some d)) ∨ H e = some (exv e C d)) ∧ (H d = some (exd d fs) ∨ H d = some (.xd fs))
theorem ExAt.mo {H H' : Hp} {e C : Addr} {fs : List (Str × V)} (x : ExAt H e C fs) (m : Mo H H') : ExAt H' e C fs := by
  obtain ⟨d, h1, h2⟩ := x
  exact ⟨d, h1.imp (m _ _ rfl) (m _ _ rfl), h2.imp (m _ _ rfl) (m _ _ rfl)⟩
/-- what the written part says of the class of such exceptions -/
structure ExcF (K : PySem.W.Frag) (C fI : Addr) : Prop where
  ox : OexC K C
  iC : PySem.W.findIn K (.ref C) "__init__" = some (some (.ref fI))
  tI : PySem.W.typeIn K (.ref fI) = some (.type "function")
  noV : PySem.W.findIn K (.ref C) "value" = some none
  ga : PySem.W.findIn K (.ref C) "__getattribute__" = some (some (.builtin "BaseException.__getattribute__"))
  gt : PySem.W.findIn K (.ref C) "__getattr__" = some none
  hd : PySem.W.hasDictIn K C = true
  ca : PySem.W.findIn K (.ref C) "__class__" = some (some (.builtin "object.__class__"))
  cn : PySem.W.specialIn K (.builtin "object.__class__") "__get__" = some (some (.builtin "getset_descriptor.__get__"))
  ct : PySem.W.takesIn K (.builtin "object.__class__") = some true
  cm : PySem.W.mroIn K C (.type "object") = some true
/-- the check of it -/
def oexB (K : PySem.W.Frag) (C : Addr) : Bool := match K.lookup C with
  | some ⟨.type "type", _, .cls cd, sl⟩ => (match cd.mro, sl.toList with
    | .ref C' :: bm, [_, _, _, _, some (.builtin n), _] => decide (C' = C) && (decide (n = "ValueError.__new__") && (!cd.hasDel && (cd.hasDict && PySem.HandSPX.refsVE bm)))
    | _, _ => false)
  | _ => false
theorem oexB_ok {K : PySem.W.Frag} {C : Addr} (h : oexB K C = true) : ∃ nm q N bs bm sn sub ab col dd k0 k1 k2 k3 k5, K.lookup C = some (excClassObj nm q C N bs bm true sn sub ab col dd k0 k1 k2 k3 k5 "ValueError.__new__") ∧ PySem.HandSPX.refsVE bm = true := by
  unfold oexB at h
  split at h
  · rename_i dd cd sl ho
    split at h
    · rename_i C' bm k0 k1 k2 k3 n k5 hm hs
      obtain ⟨h1, h⟩ := He.ba h
      obtain ⟨h2, h⟩ := He.ba h
      obtain ⟨h3, h⟩ := He.ba h
      obtain ⟨h4, h5⟩ := He.ba h
      have e1 := of_decide_eq_true h1
      have e2 := of_decide_eq_true h2
      subst e1 e2
      obtain ⟨nm, bs, mro, ns, qn, hd, sn, sub, ab, col, del⟩ := cd
      dsimp only at hm h3 h4
      subst hm h4
      have e3 : del = false := by simpa using h3
      subst e3
      obtain ⟨l⟩ := sl
      dsimp only at hs
      subst hs
      exact ⟨nm, qn, ns, bs, bm, sn, sub, ab, col, dd, k0, k1, k2, k3, k5, ho, h5⟩
    · cases h
  · cases h
def excB (K : PySem.W.Frag) (C fI : Addr) : Bool :=
  oexB K C && (He.eqO (PySem.W.findIn K (.ref C) "__setattr__") (some (some (.builtin "object.__setattr__"))) && (decide (PySem.W.subIn K (.ref C) (.type "BaseException") = some true) && (decide (PySem.W.typeIn K (.ref C) = some (.type "type")) && (PySem.W.keepIn K (.ref C) &&
  (He.eqO (PySem.W.findIn K (.ref C) "__init__") (some (some (.ref fI))) && (decide (PySem.W.typeIn K (.ref fI) = some (.type "function")) && (He.eqO (PySem.W.findIn K (.ref C) "value") (some none) && (He.eqO (PySem.W.findIn K (.ref C) "__getattribute__") (some (some (.builtin "BaseException.__getattribute__"))) &&
  (He.eqO (PySem.W.findIn K (.ref C) "__getattr__") (some none) && (PySem.W.hasDictIn K C && (He.eqO (PySem.W.findIn K (.ref C) "__class__") (some (some (.builtin "object.__class__"))) && (He.eqO (PySem.W.specialIn K (.builtin "object.__class__") "__get__") (some (some (.builtin "getset_descriptor.__get__"))) &&
  (decide (PySem.W.takesIn K (.builtin "object.__class__") = some true) && decide (PySem.W.mroIn K C (.type "object") = some true))))))))))))))
theorem excB_ok {K : PySem.W.Frag} {C fI : Addr} (h : excB K C fI = true) : ExcF K C fI := by
  obtain ⟨h1, h⟩ := He.ba h
  obtain ⟨h2, h⟩ := He.ba h
  obtain ⟨h3, h⟩ := He.ba h
  obtain ⟨h4, h⟩ := He.ba h
  obtain ⟨h5, h⟩ := He.ba h
  obtain ⟨h6, h⟩ := He.ba h
  obtain ⟨h7, h⟩ := He.ba h
  obtain ⟨h8, h⟩ := He.ba h
  obtain ⟨h9, h⟩ := He.ba h
  obtain ⟨h10, h⟩ := He.ba h
  obtain ⟨h11, h⟩ := He.ba h
  obtain ⟨h12, h⟩ := He.ba h
  obtain ⟨h13, h⟩ := He.ba h
  obtain ⟨h14, h15⟩ := He.ba h
  exact ⟨⟨oexB_ok h1, He.eqO_ok h2, of_decide_eq_true h3, of_decide_eq_true h4, h5⟩, He.eqO_ok h6, of_decide_eq_true h7, He.eqO_ok h8, He.eqO_ok h9, He.eqO_ok h10, h11, He.eqO_ok h12, He.eqO_ok h13, of_decide_eq_true h14, of_decide_eq_true h15⟩

section
variable {X : Cx} {pins : List (Addr × Obj)} {σ : L2.St} {H : Hp} {s : Shared} {e C d : Addr} {fs : List (Str × V)}
theorem ex_inst (I : Inv X pins σ H s) (x : ExAt H e C fs) : ∃ (ox : Obj) (d : Addr) (mA : Str → Option Value) (od : Obj), s.heap.Ns1 d mA ∧ (∀ f, RelO (fs.lookup f) (mA f)) ∧ PySem.W.InstAt s.heap e ox C (some od) ∧ (∀ f, PySem.W.lookIn f od = some (mA f)) := by
  obtain ⟨d, h1, h2⟩ := x
  obtain ⟨⟨c0, d0, dt, sl⟩, vs, ho, hc, hd, hv⟩ : ∃ (o : Obj) (vs : Array Value), s.heap.get? e = some o ∧ o.cls = .ref C ∧ o.dict = some d ∧ o.data = .fields vs := by
    rcases h1 with h1 | h1
    · obtain ⟨t1, q⟩ := exo_at I.hok h1
      exact ⟨_, _, q, rfl, rfl, rfl⟩
    · have z := I.hok e _ h1
      exact z.1
  dsimp only at hc hd hv
  subst hc hd hv
  obtain ⟨mA, hns, rel⟩ : ∃ mA, s.heap.Ns1 d mA ∧ ∀ f, RelO (fs.lookup f) (mA f) := by
    rcases h2 with h2 | h2
    · exact exd_at I.hok h2
    · exact I.hok d _ h2
  obtain ⟨od, hod, hl⟩ := lookIn_ns hns
  exact ⟨_, d, mA, od, hns, rel, ⟨ho, rfl, rfl, hod⟩, hl⟩
end
/-- e.f of an exception -/
def tExA (K : PySem.W.Frag) (ta : TE) (f : Str) : TE := fun σ H Q => ta σ H fun x H1 => ∃ a C fI fs v, x = .ref a ∧ ExAt H1 a C fs ∧ ExcF K C fI ∧ PySem.W.findIn K (.ref C) f = some none ∧ fs.lookup f = some v ∧ Q v H1
theorem pe_exA {X : Cx} {e : Expr} {f : Str} {pos : Pos} {ta : TE} (he : PE X e ta) (hb : attributeBase e f X.env (eval e X.env) = eval e X.env := by rfl) : PE X (.Attribute e f pos) (tExA X.K ta f) := by
  refine ⟨fun pins s σ H Q I h => attr_of hb (thn (he.run pins s σ H _ I h) fun u s1 ⟨x, H1, I1, rx, a, C, fI, fs, v, ex, ea, T, nf, hl, q⟩ => ?_)⟩
  subst ex
  obtain rfl : u = Value.ref a := rx
  obtain ⟨ox, d, mA, od, hns, rel, J, look⟩ := ex_inst I1 ea
  obtain ⟨u, hu, ru⟩ := RelO.some_of (v := v) (o := mA f) (by rw [← hl]; exact rel f)
  exact PySem.HandSPX.exc_get I1.kIn J T.ga T.gt T.ox.exC (PySem.W.findObj_own T.hd nf rfl (by rw [look, hu])) (handed_of ru) ⟨v, H1, I1.tok _, ru, q⟩
/-- isinstance, of an exception too -/
def rIsiX (K : PySem.W.Frag) : List V → Hp → VK → Prop := fun xs H Q => ∃ (a C fI : Addr) (fs : List (Str × V)) (c : V) (u : Value) (b : Bool), xs = [.ref a, c] ∧ ClsV c u ∧ ExAt H a C fs ∧ ExcF K C fI ∧ PySem.W.kitOne K (.ref C) u = some b ∧ Q (.bl b) H
def rIsiA (K : PySem.W.Frag) : List V → Hp → VK → Prop := fun xs H Q => rIsi K xs H Q ∨ rIsiX K xs H Q
theorem call_isiX {X : Cx} : CallR X (.builtin "isinstance") (rIsiX X.K) := by
  intro pins s σ H xs us Q I r h
  obtain ⟨a, C, fI, fs, c, u, b, rfl, k, ea, T, e, q⟩ := h
  obtain ⟨u1, u2, rfl, r1, r2⟩ := vals2 r
  have e2 := k.eq r2
  subst e2
  cases (show u1 = Value.ref a from r1)
  obtain ⟨ox, d, mA, od, hns, rel, J, look⟩ := ex_inst I ea
  have hcl : (PySem.W.clsIn X.K C).isSome = true := by
    obtain ⟨nm, q, N, bs, bm, sn, sub, ab, col, dd, k0, k1, k2, k3, k5, hC, hbm⟩ := T.ox.cls
    unfold PySem.W.clsIn
    rw [hC] <;> rfl
  exact PySem.W.kia_one (PySem.W.kitx_exc hcl T.ga T.gt T.ox.exC T.ca T.cn T.ct T.cm) I.kIn J e (fun z => nomatch z) fun tk => ⟨.bl b, H, I.tok tk, rfl, q⟩
theorem call_isiA {X : Cx} : CallR X (.builtin "isinstance") (rIsiA X.K) := CallR.or call_isi call_isiX
end GX

set_option Elab.async false
set_option linter.all false
set_option maxRecDepth 100000
set_option maxHeartbeats 4000000
/-! G4: what the helpers of the laws keep: pots, draws, picks. -/
namespace GX
open PySem PySem.Spec PyProof.Rows L2

theorem sqL_upd {K : PySem.W.Frag} {H : Hp} {l p : Addr} {o : HO} {xs : List V} (n : l ≠ p) (h : SqL K H l xs) : SqL K (upd H p o) l xs := by
  rcases h with (h | ⟨ob, h⟩) | h
  · exact .inl (.inl (by rw [upd_ne n]; exact h))
  · exact .inl (.inr ⟨ob, by rw [upd_ne n]; exact h⟩)
  · exact .inr h
theorem sqT_upd {K : PySem.W.Frag} {H : Hp} {l p : Addr} {o : HO} {xs : List V} (n : l ≠ p) (h : SqT K H l xs) : SqT K (upd H p o) l xs := by
  rcases h with (h | ⟨ob, h⟩) | h
  · exact .inl (.inl (by rw [upd_ne n]; exact h))
  · exact .inl (.inr ⟨ob, by rw [upd_ne n]; exact h⟩)
  · exact .inr h

theorem Bt.sqL {K : PySem.W.Frag} {H H' : Hp} {l p : Addr} {xs : List V} (b : Bt p H H') (n : l ≠ p) (h : SqL K H l xs) : SqL K H' l xs := by
  rcases h with (h | ⟨ob, h⟩) | h
  · exact .inl (.inl (b _ _ n h))
  · exact .inl (.inr ⟨ob, b _ _ n h⟩)
  · exact .inr h
theorem Bt.sqT {K : PySem.W.Frag} {H H' : Hp} {l p : Addr} {xs : List V} (b : Bt p H H') (n : l ≠ p) (h : SqT K H l xs) : SqT K H' l xs := by
  rcases h with (h | ⟨ob, h⟩) | h
  · exact .inl (.inl (b _ _ n h))
  · exact .inl (.inr ⟨ob, b _ _ n h⟩)
  · exact .inr h
/-! ### small numbers -/
theorem log2_lt64 {i : Int} (h1 : -(2 ^ 64) < i) (h2 : i < 2 ^ 64) : i.natAbs.log2 < 64 := by
  by_cases h0 : i.natAbs = 0
  · rw [h0]
    decide
  · exact (Nat.log2_lt h0).mpr (by omega)
theorem cmul64 {i j : Int} (h1 : -(2 ^ 64) < i) (h2 : i < 2 ^ 64) (h3 : -(2 ^ 64) < j) (h4 : j < 2 ^ 64) : CMulW i j := by
  have := log2_lt64 h1 h2
  have := log2_lt64 h3 h4
  show _ + _ < 1000000
  omega
theorem cdiv64 {i j : Int} (h3 : 0 < j) (h4 : j < 2 ^ 64) : CDivW i j := by
  have := log2_lt64 (i := j) (by omega) h4
  exact ⟨h3, by omega⟩
theorem log2_mod300 (i : Int) : (i % (10 ^ 300)).natAbs.log2 < 1000 := by
  have hp : (0 : Int) < 10 ^ 300 := Int.pow_pos (by decide)
  have h1 := Int.emod_nonneg i (Int.ne_of_gt hp)
  have h2 := Int.emod_lt_of_pos i hp
  by_cases h0 : (i % (10 ^ 300)).natAbs = 0
  · rw [h0]
    decide
  · refine (Nat.log2_lt h0).mpr ?_
    have e : ((i % (10 ^ 300)).natAbs : Int) = i % (10 ^ 300) := Int.natAbs_of_nonneg h1
    have h3 : ((i % (10 ^ 300)).natAbs : Int) < ((10 ^ 300 : Nat) : Int) := by
      rw [e]
      have e2 : ((10 ^ 300 : Nat) : Int) = 10 ^ 300 := by norm_cast
      rw [e2]
      exact h2
    have h4 : (i % (10 ^ 300)).natAbs < 10 ^ 300 := Int.ofNat_lt.mp h3
    exact Nat.lt_trans h4 (by decide +kernel)
theorem sq_le {a c n : Int} (ha : 0 ≤ a) (h0 : 0 ≤ c) (h1 : c ≤ n) : 0 ≤ a * c * c ∧ a * c * c ≤ a * n * n := by
  have hac : 0 ≤ a * c := Int.mul_nonneg ha h0
  refine ⟨Int.mul_nonneg hac h0, ?_⟩
  have h2 : a * c ≤ a * n := Int.mul_le_mul_of_nonneg_left h1 ha
  exact Int.mul_le_mul h2 h1 h0 (Int.le_trans hac h2)

/-! ### pots -/
/-- digits, a seed, how often it was asked (at most c times) -/
def PotO (c : Nat) (o : HO) : Prop := ∃ own seed cnt : Int, o = .lst [.int own, .int seed, .int cnt] ∧ 0 ≤ own ∧ 0 ≤ seed ∧ seed < 2305843009213693952 ∧ 0 ≤ cnt ∧ cnt ≤ c
theorem PotO.mono {c d : Nat} {o : HO} (h : PotO c o) (k : c ≤ d) : PotO d o := by
  obtain ⟨a, b, e, h1, h2, h3, h4, h5, h6⟩ := h
  exact ⟨a, b, e, h1, h2, h3, h4, h5, by omega⟩
theorem PotO.imm {c : Nat} {o : HO} (h : PotO c o) : Imm o = false := by
  obtain ⟨a, b, e, h1, _⟩ := h
  rw [h1]
  rfl
def spPot (K : PySem.W.Frag) : Sp := fun vs H Q _ => ∃ (a : Addr) (ns : List Int) (k : Int), vs = [.ref a, .int k] ∧ SqL K H a (ns.map V.int) ∧ 0 ≤ k ∧ k ≤ 1000 ∧ ∀ p o, H p = none → PotO 0 o → Q (.ref p) (upd H p o)
def spTake : Sp := fun vs H Q _ => ∃ (p : Addr) (n : Int) (c : Nat) (o : HO), vs = [.ref p, .int n] ∧ H p = some o ∧ PotO c o ∧ c ≤ 90000 ∧ 1 ≤ n ∧ n ≤ 1000000 ∧
  ∀ H' o' i, Bt p H H' → H' p = some o' → PotO (c + 1) o' → 0 ≤ i → i < n → Q (.int i) H'
def spOf (K : PySem.W.Frag) : Sp := fun vs H Q _ => ∃ (p l : Addr) (c : Nat) (o : HO) (xs : List V), vs = [.ref p, .ref l] ∧ H p = some o ∧ PotO c o ∧ c ≤ 90000 ∧ l ≠ p ∧ (SqL K H l xs ∨ SqT K H l xs) ∧ 1 ≤ xs.length ∧ xs.length ≤ 1000 ∧
  ∀ H' o' v, Bt p H H' → H' p = some o' → PotO (c + 1) o' → v ∈ xs → Q v H'
def spPlaces (K : PySem.W.Frag) : Sp := fun vs H Q _ => ∃ (a : Addr) (ns : List Int) (m : Int), vs = [.ref a, .int m] ∧ SqL K H a (ns.map V.int) ∧ 1 ≤ m ∧ m ≤ 100 ∧ ∀ l k, H l = none → 1 ≤ k → k ≤ m → Q (.ref l) (upd H l (.lst (rgV 0 k)))
end GX

set_option Elab.async false
set_option linter.all false
set_option maxRecDepth 100000
set_option maxHeartbeats 4000000
/-! G5: data displayed, compared, cut, turned about; its kinds. -/
namespace GX
open PySem PySem.Spec PyProof.Rows L2

/-! ### data compared -/
def rEqX (K : PySem.W.Frag) : R2 := fun x y H Q => ∃ d e, D (Now K H) x d ∧ D (Now K H) y e ∧ SeqAt.shaped d = true ∧ SeqAt.shaped e = true ∧ Q (.bl (d.eqv e)) H
def rNeX (K : PySem.W.Frag) : R2 := fun x y H Q => ∃ d e, D (Now K H) x d ∧ D (Now K H) y e ∧ SeqAt.shaped d = true ∧ SeqAt.shaped e = true ∧ Q (.bl (!d.eqv e)) H
section
variable {X : Cx}
theorem op_eqX (KS : KSys X.K) (hu : X.A.units + 64 < cLine) : OpR X (compareOp .Eq) (rEqX X.K) := by
  intro pins s σ H x y v u Q I rx ry h
  obtain ⟨d, e, hd, he, sd, se, q⟩ := h
  obtain ⟨as, h1, _⟩ := D.reads KS I d x v hd rx
  obtain ⟨bs, h2, _⟩ := D.reads KS I e y u he ry
  exact SeqAt.compareEq_shaped h1 h2 sd se hu ⟨.bl _, H, I, rfl, q⟩
theorem op_neX (KS : KSys X.K) (hu : X.A.units + 64 < cLine) : OpR X (compareOp .NotEq) (rNeX X.K) := by
  intro pins s σ H x y v u Q I rx ry h
  obtain ⟨d, e, hd, he, sd, se, q⟩ := h
  obtain ⟨as, h1, _⟩ := D.reads KS I d x v hd rx
  obtain ⟨bs, h2, _⟩ := D.reads KS I e y u he ry
  exact SeqAt.compareNe_shaped h1 h2 sd se hu ⟨.bl _, H, I, rfl, q⟩
end

/-! ### slices of tuples and texts; a tuple turned about -/
theorem SlR.or {X : Cx} {r r' : V → Option Int → Option Int → Hp → VK → Prop} (h : SlR X r) (h' : SlR X r') : SlR X (fun x lo hi H Q => r x lo hi H Q ∨ r' x lo hi H Q) := by
  intro pins s σ H x v vl vu lo hi sl Q I rx hs pl pu q
  rcases q with q | q
  · exact h pins s σ H x v vl vu lo hi sl Q I rx hs pl pu q
  · exact h' pins s σ H x v vl vu lo hi sl Q I rx hs pl pu q
section
variable {prog : Program} {w : World} {A : Around} {E : Value → Shared → Prop} {s : Shared}
theorem places_rev (n : Nat) : Builtin.Slice.slicePlaces ((n : Int) - 1) (-1) (-1) = n := by
  unfold Builtin.Slice.slicePlaces
  rw [if_neg (by omega)]
  by_cases h : (n : Int) - 1 > -1
  · rw [if_pos h, show (-(-1) : Int) = 1 by decide, Int.ediv_one]
    omega
  · rw [if_neg h]
    omega
theorem applied_rev {sl : Addr} {vl vu vs : Value} {n : Nat} {Q : Int × Int × Nat → Shared → Prop} (hs : s.heap.IsSliceOf sl vl vu vs) (pl : IsPart vl .none) (pu : IsPart vu .none) (ps : IsPart vs (some (-1)))
    (h : Q ((n : Int) - 1, -1, n) s) : wpAny (model prog w) A (Builtin.Slice.sliceApplied (.ref sl) (pure (n : Int))) Q E s := by
  obtain ⟨os, hos, _, hds⟩ := hs
  unfold Builtin.Slice.sliceApplied Builtin.Slice.sliceFields
  refine wpAny_bind (wpAny_bind (wpAny_field hos hds (x := vl) rfl (wpAny_bind (wpAny_field hos hds (x := vu) rfl (wpAny_bind (wpAny_field hos hds (x := vs) rfl (wpAny_pure ?_)))))))
  refine wpAny_bind (HT.slicePart_ ps ?_)
  show wpAny _ _ (if ((-1 : Int) == 0) = true then _ else _) _ _ s
  rw [if_neg (by decide)]
  refine wpAny_bind (HT.slicePart_ pl (wpAny_bind (HT.slicePart_ pu (wpAny_bind (wpAny_pure ?_)))))
  show wpAny _ _ (pure ((n : Int) - 1, (-1 : Int), Builtin.Slice.slicePlaces ((n : Int) - 1) (-1) (-1))) _ _ s
  rw [places_rev]
  exact wpAny_pure h
theorem pick_rev (xs : Array Value) : ((List.range xs.size).filterMap fun (k : Nat) => xs[(((xs.size : Int) - 1) + (k : Int) * (-1)).toNat]?).toArray = xs.toList.reverse.toArray := by
  rw [← PySem.W.krv_pick]
  unfold slicePick
  rw [PySem.W.krv_bounds]
  show _ = ((sliceRange ((xs.size : Int) - 1) (-1) (-1)).filterMap (xs[·]?)).toArray
  rw [PySem.W.krv_sliceRange, List.filterMap_map]
  congr 1
  have e : ∀ l : List Nat, (∀ k ∈ l, k < xs.size) → l.filterMap (fun (k : Nat) => xs[(((xs.size : Int) - 1) + (k : Int) * (-1)).toNat]?) = l.filterMap ((fun x => xs[x]?) ∘ fun k => xs.size - 1 - k) := by
    intro l
    induction l with
    | nil => exact fun _ => rfl
    | cons k r ih =>
      intro h
      have hk := h k (List.mem_cons_self ..)
      have e1 : (((xs.size : Int) - 1) + (k : Int) * (-1)).toNat = xs.size - 1 - k := by omega
      rw [List.filterMap_cons, List.filterMap_cons, ih fun x hx => h x (List.mem_cons_of_mem _ hx), e1]
      rfl
  exact e _ fun k hk => List.mem_range.mp hk
theorem getItem_tup_rev {t sl : Addr} {items : Array Value} {vl vu vs : Value} {Q : Value → Shared → Prop} (ht : IsTup s.heap t items) (hs : s.heap.IsSliceOf sl vl vu vs) (pl : IsPart vl .none) (pu : IsPart vu .none) (ps : IsPart vs (some (-1)))
    (h : Q (.ref s.heap.objs.size) { s with heap := s.heap.push { cls := .type "tuple", data := .seq items.toList.reverse.toArray } }) (hsz : items.size ≤ sizeLine) : wpAny (model prog w) A (getItem (.ref t) (.ref sl)) Q E s := by
  have hfit : sizeOk (.seq items.toList.reverse.toArray) := by
    show items.toList.reverse.toArray.size ≤ sizeLine
    rw [List.size_toArray, List.length_reverse, Array.length_toList]
    exact hsz
  obtain ⟨os, hos, hcs, _⟩ := id hs
  have hT : s.TypeIs (.ref sl) "slice" := ⟨os, hos, hcs⟩
  unfold getItem
  try with_reducible refine wpAny_holding ?_
  first
    | refine wpAny_bind (wpAny_pure ?_)
    | skip
  refine wpAny_bind (wpAny_sequenceKey ht.typeIs (by decide) ?_)
  refine wpAny_bind (wpAny_callSpecial?_slot (name := Str.ofString "__getitem__") (kw := []) ht.typeIs
    PyProof.Rows.slot_tuple_getitem (wpAny_call_entry PyProof.Rows.slot_tuple_getitem ht.typeIs
      entry_tuple_getitem ?_ (args_tuple_getitem _ _)))
  refine (show wpAny _ _ (Builtin.Tuple.tupleItemsOf (.ref t) >>= _) _ _ s from wpAny_bind (tupleItemsOf_ ht (wpAny_bind (wpAny_typeOf hT ?_))))
  rw [if_pos (by decide)]
  refine wpAny_bind (applied_rev hs pl pu ps ?_)
  have no : ¬ ((((items.size : Int) - 1) == 0 && (-1 : Int) == 1 && items.size == items.size) = true) := by simp
  show wpAny _ _ (if (((items.size : Int) - 1) == 0 && (-1 : Int) == 1 && items.size == items.size) = true then _ else _) _ _ s
  rw [if_neg no, pick_rev]
  first
    | exact wpAny_bind (m := Builtin.Tuple.tupleExact _) (wpAny_newObj_type (wpAny_pure ⟨_, rfl, wpAny_pure h⟩) hfit)
    | exact wpAny_bind (wpAny_bind (m := Builtin.Tuple.tupleExact _) (wpAny_newObj_type (wpAny_pure (wpAny_pure ⟨_, rfl, wpAny_pure h⟩)) hfit))
    | exact wpAny_bind (m := Builtin.Tuple.tupleExact _) (wpAny_newObj_type (wpAny_bind (wpAny_pure (wpAny_pure ⟨_, rfl, wpAny_pure h⟩))) hfit)
    | exact wpAny_bind (wpAny_bind (m := Builtin.Tuple.tupleExact _) (wpAny_newObj_type (wpAny_pure ⟨_, rfl, wpAny_pure h⟩) hfit))
end
/-- x[::-1] of a tuple -/
def tRevT (K : PySem.W.Frag) (te : TE) : TE := fun σ H Q => te σ H fun x H1 => ∃ a xs, x = .ref a ∧ SqT K H1 a xs ∧ ∀ p, H1 p = none → Q (.ref p) (upd H1 p (.tup xs.reverse))
theorem pe_revT {X : Cx} {e : Expr} {te : TE} {k : Nat} {p1 p2 p3 pos : Pos} (he : PE X e te) : PE X (.Subscript e (.Slice none none (some (.UnaryOp .USub (.Constant (.int 1) k p1) p2)) p3) pos) (tRevT X.K te) := by
  refine ⟨fun pins s σ H Q I h => Subscript_ (thn (he.run pins s σ H _ I h) fun v s1 ⟨x, H1, I1, r1, a, xs, ex, hx, q⟩ => ?_)⟩
  subst ex
  cases r1
  have hst : PO X (some (.UnaryOp .USub (.Constant (.int 1) k p1) p2)) (tPart (tUn (rU fun i => .int (-i)) (tC (.int 1)))) := po_some (pe_un un_neg pe_int)
  refine wpAny_Slice (thn (po_none.run pins s1 σ H1 (fun o H2 => o = none ∧ H2 = H1) I1 ⟨rfl, rfl⟩) fun vl s2 ⟨l, H2, I2, pl, el, e2⟩ => ?_)
  subst el e2
  refine thn (po_none.run pins s2 σ H2 (fun o H3 => o = none ∧ H3 = H2) I2 ⟨rfl, rfl⟩) fun vu s3 ⟨u, H3, I3, pu, eu, e3⟩ => ?_
  subst eu e3
  refine thn (hst.run pins s3 σ H3 (fun o H4 => o = some (-1) ∧ H4 = H3) I3 ⟨1, rfl, -1, rfl, rfl, rfl⟩) fun vs s4 ⟨o, H4, I4, ps, eo, e4⟩ => ?_
  subst eo e4
  have I5 : Inv X pins σ H4 { s4 with heap := s4.heap.push { cls := .type "slice", data := .fields #[vl, vu, vs] } } := I4.kept (t' := s4.toks) fun b ob q => Heap.get?_push_of_some _ q
  obtain ⟨its, r, ht, hz⟩ := I5.tuple hx
  have hlen := r.length
  show wpAny (model X.prog X.w) X.A (subscriptTail e _ (.ref a) (.ref s4.heap.objs.size)) _ X.xe { s4 with heap := s4.heap.push { cls := .type "slice", data := .fields #[vl, vu, vs] } }
  refine tail_any (ops := [.ref a, .ref s4.heap.objs.size]) ht.typeIs (PyProof.Rows.slot_tuple_getitem.lookup) ?_ (by with_unfolding_all rfl)
  refine getItem_tup_rev ht (Heap.IsSliceOf.new _ vl vu vs) pl pu ps ?_ (by rw [List.size_toArray]; omega)
  refine ⟨.ref _, _, I5.laid (t' := s4.toks) (o := .tup xs.reverse) (fun b ob q => Heap.get?_push_of_some _ q) (Nat.le_refl _) ?_, rfl, q _ (I5.hok.fresh (Nat.le_refl _))⟩
  exact ⟨by rw [List.length_reverse]; exact hz, _, r.reverse, IsTup.new _ _⟩
end GX

set_option Elab.async false
set_option linter.all false
set_option maxRecDepth 100000
set_option maxHeartbeats 4000000
/-! G6: what displays tell; data's kinds; parts of data. -/
namespace GX
open PySem PySem.Spec PyProof.Rows L2

theorem Same.tr {H H1 H2 : Hp} (a : Same H H1) (b : Same H1 H2) : Same H H2 := fun c o h => b c o (a c o h)
theorem Same.rf (H : Hp) : Same H H := fun _ _ h => h
/-- te makes d, all else stays -/
def EvD (te : TE) (σ : L2.St) (H : Hp) (d : PyData) : Prop := ∀ (H1 : Hp) (Q : VK), Same H H1 → (∀ v H2, Same H1 H2 → D (Per H2) v d → Q v H2) → te σ H1 Q
def EvA (ta : TA) (σ : L2.St) (H : Hp) (ds : List PyData) : Prop := ∀ (H1 : Hp) (Q : List V → Hp → Prop), Same H H1 → (∀ vs H2, Same H1 H2 → DA (Per H2) vs ds → Q vs H2) → ta σ H1 Q
theorem D.sm {H H' : Hp} {v : V} {d : PyData} (h : D (Per H) v d) (s : Same H H') : D (Per H') v d := D.mono (Per.mo (Same.mo s)) h
theorem DA.sm {H H' : Hp} {v : List V} {d : List PyData} (h : DA (Per H) v d) (s : Same H H') : DA (Per H') v d := DA.mono (Per.mo (Same.mo s)) h
section
variable {σ : L2.St} {H : Hp} {te : TE} {ta : TA} {d : PyData} {ds : List PyData} {v : V}
theorem ev_c (h : ∀ L, D L v d) : EvD (tC v) σ H d := fun H1 Q s k => k v H1 (Same.rf H1) (h _)
theorem ev_non : EvD (tC .non) σ H .none := ev_c fun _ => .non
theorem ev_bl {b : Bool} : EvD (tC (.bl b)) σ H (.bool b) := ev_c fun _ => .bl b
theorem ev_int {i : Int} : EvD (tC (.int i)) σ H (.int i) := ev_c fun _ => .int i
theorem ev_str {x : Str} : EvD (tC (.str x)) σ H (.str x) := ev_c fun _ => .str x
theorem ev_neg {i : Int} : EvD (tUn (rU fun i => .int (-i)) (tC (.int i))) σ H (.int (-i)) := fun H1 Q s k => ⟨i, rfl, k _ H1 (Same.rf H1) (.int _)⟩
theorem ev_pow8 : EvD (tOp rPowA (tC (.int 10)) (tC (.int 8))) σ H (.int 100000000) := fun H1 Q s k => .inl ⟨_, _, rfl, rfl, ⟨by decide, by decide, by decide⟩, by
  have e : (10 : Int) ^ (8 : Int).toNat = 100000000 := by decide +kernel
  show Q (.int ((10 : Int) ^ (8 : Int).toNat)) H1
  rw [e]
  exact k _ H1 (Same.rf H1) (.int _)⟩
theorem ev_nil : EvA tNil σ H [] := fun H1 Q s k => k _ H1 (Same.rf H1) .nil
theorem ev_cons (h1 : EvD te σ H d) (h2 : EvA ta σ H ds) : EvA (tCons te ta) σ H (d :: ds) := fun H1 Q s k =>
  h1 H1 _ s fun v H2 s2 d2 => h2 H2 _ (Same.tr s s2) fun vs H3 s3 d3 => k _ _ (Same.tr s2 s3) (.cons (d2.sm s3) d3)
theorem ev_tup (h : EvA ta σ H ds) (hl : ds.length ≤ sizeLine := by first | decide | exact Nat.le_of_ble_eq_true rfl) : EvD (tTup ta) σ H (.tuple ds) := fun H1 Q s k =>
  h H1 _ s fun vs H2 s2 d2 => ⟨by rw [d2.len]; exact hl, fun p hp => k _ _ (Same.tr s2 (Same.new hp)) (.tup (.inl ⟨_, rfl, upd_same⟩) (d2.sm (Same.new hp)))⟩
theorem same_fz {p : Addr} {u w : HO} (hp : H p = none) : Same H (upd (upd H p u) p w) := fun a o e => by
  have n := ne_of_none e hp
  rw [upd_ne n, upd_ne n]
  exact e
theorem ev_fzl (h : EvA ta σ H ds) (hl : ds.length ≤ sizeLine := by first | decide | exact Nat.le_of_ble_eq_true rfl) : EvD (tFz (tLst ta)) σ H (.list ds) := fun H1 Q s k =>
  h H1 _ s fun vs H2 s2 d2 => ⟨by rw [d2.len]; exact hl, fun p hp => ⟨p, .lst vs, rfl, upd_same, rfl, fun o => k _ _ (Same.tr s2 (same_fz hp)) (.lst (.inr ⟨o, upd_same⟩) (d2.sm (same_fz hp)))⟩⟩
theorem ev_fd0 : EvD (tFz tDNewK) σ H (.dict []) := fun H1 Q s k p hp => ⟨p, .dK [], rfl, upd_same, rfl, fun o => k _ _ (same_fz hp) (.dic (.inr ⟨o, upd_same⟩) .nil)⟩
theorem ev_fd1 {x : Str} (h : EvD te σ H d) : EvD (tFz (tDisp [(tC (.str x), te)])) σ H (.dict [(.str x, d)]) := fun H1 Q s k p hp =>
  h _ _ (Same.tr s (Same.new hp)) fun v H2 s2 d2 => ⟨s2 _ _ upd_same, [(.inr x, v)], rfl, (by show 1 ≤ 15; decide), ⟨p, .dK [(.inr x, v)], rfl, upd_same, rfl, fun o => by
    have sm : Same H1 (upd (upd H2 p (.dK [(.inr x, v)])) p (.frz o (.dK [(.inr x, v)]))) := fun a u e => by
      have n := ne_of_none e hp
      rw [upd_ne n, upd_ne n]
      exact s2 _ _ (by rw [upd_ne n]; exact e)
    refine k _ _ sm (.dic (.inr ⟨o, upd_same⟩) (.cons (D.mono (Per.mo fun a u i e => ?_) d2) .nil))
    have n : a ≠ p := fun z => by
      subst z
      rw [s2 _ _ upd_same] at e
      cases e
      cases i
    rw [upd_ne n, upd_ne n]
    exact e⟩⟩
end
theorem ev_go {σ : L2.St} {H : Hp} {ta : TA} {ds : List PyData} {Q : List V → Hp → Prop} (h : EvA ta σ H ds) (k : ∀ vs H2, Same H H2 → DA (Per H2) vs ds → Q vs H2) : ta σ H Q := h H Q (Same.rf H) k
theorem DA.mem {L : Rdr} : ∀ {vs : List V} {ds : List PyData} {v : V}, DA L vs ds → v ∈ vs → ∃ d, d ∈ ds ∧ D L v d
  | _, _, _, .nil, h => by cases h
  | _, _, v, .cons (v := w) (vs := vs) a b, h => by
    rcases List.mem_cons.mp h with h | h
    · subst h
      exact ⟨_, List.mem_cons_self .., a⟩
    · obtain ⟨d, h1, h2⟩ := DA.mem b h
      exact ⟨d, List.mem_cons_of_mem _ h1, h2⟩
def gdB (n m : Nat) (d : PyData) : Bool := decide (wt d ≤ n) && (decide (d.depth ≤ m) && asc d)
theorem gdB_ok {n m : Nat} {d : PyData} (h : gdB n m d = true) : Gd n m d := by
  obtain ⟨h1, h⟩ := He.ba h
  obtain ⟨h2, h3⟩ := He.ba h
  exact ⟨of_decide_eq_true h1, of_decide_eq_true h2, h3⟩
theorem gd_all {n m : Nat} {ds : List PyData} (h : ds.all (gdB n m) = true) : ∀ d ∈ ds, Gd n m d := fun d hd => gdB_ok (List.all_eq_true.mp h d hd)
/-- a display of data -/
def tDA (ds : List PyData) : TA := fun σ H Q => ∀ vs H2, Same H H2 → DA (Per H2) vs ds → Q vs H2
theorem pa_dt {X : Cx} {es : List Expr} {ta : TA} {ds : List PyData} (h : PA X es ta) (k : ∀ σ H, EvA ta σ H ds) : PA X es (tDA ds) :=
  ⟨fun pl pins s σ H Q I q => h.run pl pins s σ H Q I (k σ H H Q (Same.rf H) q)⟩
/-- a drawn value of any kind -/
def spOdd : Sp := fun vs H Q _ => ∃ (p : Addr) (c : Nat) (o : HO), vs = [.ref p] ∧ H p = some o ∧ PotO c o ∧ c ≤ 90000 ∧ ∀ H' o' v d, Bt p H H' → H' p = some o' → PotO (c + 1) o' → D (Per H') v d → Gd 40 3 d → Q v H'
end GX

set_option Elab.async false
set_option linter.all false
set_option maxRecDepth 100000
set_option maxHeartbeats 4000000
/-! G7: displays of what a value gives; parts of data and their sizes. -/
namespace GX
open PySem PySem.Spec PyProof.Rows L2

/-! ### lists of data -/
section
variable {L : Rdr}
theorem DA.drop : ∀ {vs : List V} {ds : List PyData} (i : Nat), DA L vs ds → DA L (vs.drop i) (ds.drop i)
  | _, _, 0, h => h
  | _, _, i + 1, .nil => .nil
  | _, _, i + 1, .cons _ b => DA.drop i b
theorem DA.take : ∀ {vs : List V} {ds : List PyData} (i : Nat), DA L vs ds → DA L (vs.take i) (ds.take i)
  | _, _, 0, h => .nil
  | _, _, i + 1, .nil => .nil
  | _, _, i + 1, .cons a b => .cons a (DA.take i b)
theorem DA.rev {vs : List V} {ds : List PyData} (h : DA L vs ds) : DA L vs.reverse ds.reverse := by
  have go : ∀ (vs : List V) (ds : List PyData), DA L vs ds → DA L vs.reverse ds.reverse := by
    intro vs
    induction vs with
    | nil => intro ds h; cases h; exact .nil
    | cons v vs ih =>
      intro ds h
      cases h with
      | cons a b =>
        rw [List.reverse_cons, List.reverse_cons]
        exact (ih _ b).app (.cons a .nil)
  exact go vs ds h
end
def cutD (ds : List PyData) (lo hi : Option Int) : List PyData := (ds.drop (HT.sIx ds.length 0 lo)).take (HT.sIx ds.length ds.length hi - HT.sIx ds.length 0 lo)
theorem wtA_sub {xs ys : List PyData} (h : xs.Sublist ys) : wtA xs ≤ wtA ys := by
  induction h with
  | slnil => exact Nat.le_refl _
  | cons a _ ih => simp only [wtA]; omega
  | cons_cons a _ ih => simp only [wtA]; omega
theorem depthA_sub {xs ys : List PyData} (h : xs.Sublist ys) : PyData.depthAll xs ≤ PyData.depthAll ys := by
  induction h with
  | slnil => exact Nat.le_refl _
  | cons a _ ih => simp only [PyData.depthAll]; omega
  | cons_cons a _ ih => simp only [PyData.depthAll]; omega
theorem ascA_sub {xs ys : List PyData} (h : xs.Sublist ys) (k : ascA ys = true) : ascA xs = true := by
  induction h with
  | slnil => exact k
  | cons a _ ih => simp only [ascA, Bool.and_eq_true] at k; exact ih k.2
  | cons_cons a _ ih => simp only [ascA, Bool.and_eq_true] at k ⊢; exact ⟨k.1, ih k.2⟩
theorem wtA_app (xs ys : List PyData) : wtA (xs ++ ys) = wtA xs + wtA ys := by
  induction xs with
  | nil => simp [wtA]
  | cons a r ih => simp only [List.cons_append, wtA, ih]; omega
theorem depthA_app (xs ys : List PyData) : PyData.depthAll (xs ++ ys) = max (PyData.depthAll xs) (PyData.depthAll ys) := by
  induction xs with
  | nil => simp [PyData.depthAll]
  | cons a r ih => simp only [List.cons_append, PyData.depthAll, ih]; omega
theorem ascA_app (xs ys : List PyData) : ascA (xs ++ ys) = (ascA xs && ascA ys) := by
  induction xs with
  | nil => simp [ascA]
  | cons a r ih => simp only [List.cons_append, ascA, ih, Bool.and_assoc]
theorem wtA_rev (xs : List PyData) : wtA xs.reverse = wtA xs := by
  induction xs with
  | nil => rfl
  | cons a r ih => rw [List.reverse_cons, wtA_app, ih]; simp only [wtA]; omega
theorem depthA_rev (xs : List PyData) : PyData.depthAll xs.reverse = PyData.depthAll xs := by
  induction xs with
  | nil => rfl
  | cons a r ih => rw [List.reverse_cons, depthA_app, ih]; simp only [PyData.depthAll]; omega
theorem ascA_rev (xs : List PyData) : ascA xs.reverse = ascA xs := by
  induction xs with
  | nil => rfl
  | cons a r ih => rw [List.reverse_cons, ascA_app, ih]; simp only [ascA, Bool.and_true]; exact Bool.and_comm _ _
theorem cutD_sub (ds : List PyData) (lo hi : Option Int) : (cutD ds lo hi).Sublist ds := (List.take_sublist _ _).trans (List.drop_sublist _ _)
/-- a list's sizes -/
structure GdA (n m : Nat) (ds : List PyData) : Prop where
  w : wtA ds ≤ n
  dp : PyData.depthAll ds ≤ m
  as : ascA ds = true
theorem GdA.sub {n m : Nat} {xs ys : List PyData} (g : GdA n m ys) (h : xs.Sublist ys) : GdA n m xs := ⟨Nat.le_trans (wtA_sub h) g.w, Nat.le_trans (depthA_sub h) g.dp, ascA_sub h g.as⟩
theorem GdA.app {n n' m : Nat} {xs ys : List PyData} (g : GdA n m xs) (g' : GdA n' m ys) : GdA (n + n') m (xs ++ ys) := ⟨by rw [wtA_app]; exact Nat.add_le_add g.w g'.w, by rw [depthA_app]; exact Nat.max_le.mpr ⟨g.dp, g'.dp⟩, by rw [ascA_app, g.as, g'.as]; rfl⟩
theorem GdA.rev {n m : Nat} {xs : List PyData} (g : GdA n m xs) : GdA n m xs.reverse := ⟨by rw [wtA_rev]; exact g.w, by rw [depthA_rev]; exact g.dp, by rw [ascA_rev]; exact g.as⟩
theorem GdA.mono {n n' m m' : Nat} {xs : List PyData} (g : GdA n m xs) (h : n ≤ n') (k : m ≤ m') : GdA n' m' xs := ⟨Nat.le_trans g.w h, Nat.le_trans g.dp k, g.as⟩
theorem Gd.tupA {n m : Nat} {ds : List PyData} (g : Gd n m (.tuple ds)) : GdA (n - 3) (m - 1) ds ∧ 3 ≤ n ∧ 1 ≤ m := by
  obtain ⟨h1, h2, h3⟩ := g
  simp only [wt] at h1
  simp only [PyData.depth] at h2
  simp only [asc] at h3
  exact ⟨⟨by omega, by omega, h3⟩, by omega, by omega⟩
theorem GdA.tup {n m : Nat} {ds : List PyData} (g : GdA n m ds) : Gd (n + 3) (m + 1) (.tuple ds) := ⟨by simp only [wt]; have := g.w; omega, by simp only [PyData.depth]; have := g.dp; omega, by simp only [asc]; exact g.as⟩
theorem GdA.lst {n m : Nat} {ds : List PyData} (g : GdA n m ds) : Gd (n + 2) (m + 1) (.list ds) := ⟨by simp only [wt]; have := g.w; omega, by simp only [PyData.depth]; have := g.dp; omega, by simp only [asc]; exact g.as⟩
theorem GdA.one {n m : Nat} {d : PyData} (g : Gd n m d) : GdA (n + 2) m [d] := ⟨by simp only [wtA]; have := g.w; omega, by simp only [PyData.depthAll]; have := g.dp; omega, by simp only [ascA, g.as, Bool.and_true]⟩
theorem GdA.len {n m : Nat} {ds : List PyData} (g : GdA n m ds) : ds.length ≤ n := by
  have h : ∀ xs : List PyData, 2 * xs.length ≤ wtA xs := by
    intro xs
    induction xs with
    | nil => exact Nat.zero_le _
    | cons a r ih => simp only [List.length_cons, wtA]; omega
  have := h ds
  have := g.w
  omega
theorem GdA.get {n m : Nat} {ds : List PyData} {d : PyData} {i : Nat} (g : GdA n m ds) (h : ds[i]? = some d) : Gd n m d ∧ wt d + 2 + wtA (ds.take i) + wtA (ds.drop (i + 1)) = wtA ds := by
  have go : ∀ (ds : List PyData) (i : Nat), ds[i]? = some d → ascA ds = true → (d.depth ≤ PyData.depthAll ds ∧ asc d = true) ∧ wt d + 2 + wtA (ds.take i) + wtA (ds.drop (i + 1)) = wtA ds := by
    intro ds
    induction ds with
    | nil => intro i h; simp at h
    | cons a r ih =>
      intro i h k
      simp only [ascA, Bool.and_eq_true] at k
      cases i with
      | zero =>
        simp only [List.getElem?_cons_zero, Option.some.injEq] at h
        subst h
        simp only [PyData.depthAll, List.take_zero, wtA, Nat.zero_add, List.drop_succ_cons, List.drop_zero]
        exact ⟨⟨Nat.le_max_left _ _, k.1⟩, trivial⟩
      | succ i =>
        simp only [List.getElem?_cons_succ] at h
        obtain ⟨⟨h1, h2⟩, h3⟩ := ih i h k.2
        simp only [PyData.depthAll, List.take_succ_cons, wtA, List.drop_succ_cons]
        exact ⟨⟨by omega, h2⟩, by omega⟩
  obtain ⟨⟨h1, h2⟩, h3⟩ := go ds i h g.as
  exact ⟨⟨by have := g.w; omega, Nat.le_trans h1 g.dp, h2⟩, h3⟩

/-! ### rules over data -/
section
variable {K : PySem.W.Frag} {H : Hp} {x y : V} {ds es : List PyData} {Q : VK}
theorem per_sqT {a : Addr} {xs : List V} (h : Per H a (.tup xs)) : SqT K H a xs := by
  rcases h with ⟨_, e, h⟩ | ⟨o, h⟩
  · cases e
    exact .inl (.inl h)
  · exact .inl (.inr ⟨o, h⟩)
theorem dat_cat (hx : D (Per H) x (.tuple ds)) (hy : D (Per H) y (.tuple es)) (hl : ds.length + es.length ≤ sizeLine) (k : ∀ v H', Same H H' → D (Per H') v (.tuple (ds ++ es)) → Q v H') : rCatA K x y H Q := by
  cases hx with
  | tup ha da =>
    cases hy with
    | tup hb db =>
      rename_i a xs b ys
      refine ⟨a, b, xs, ys, rfl, rfl, per_sqT ha, per_sqT hb, by rw [da.len, db.len]; exact hl, fun e => ?_, fun e1 e2 => ?_, fun e1 e2 p hp => ?_⟩
      · subst e
        cases da
        exact k _ _ (Same.rf H) (.tup hb db)
      · subst e2
        cases db
        refine k _ _ (Same.rf H) ?_
        rw [List.append_nil]
        exact .tup ha da
      · exact k _ _ (Same.new hp) (.tup (.inl ⟨_, rfl, upd_same⟩) ((da.app db).sm (Same.new hp)))
theorem dat_cut {lo hi : Option Int} (hx : D (Per H) x (.tuple ds)) (k : ∀ v H', Same H H' → D (Per H') v (.tuple (cutD ds lo hi)) → Q v H') : rSlA K x lo hi H Q := by
  cases hx with
  | tup ha da =>
    rename_i a xs
    refine ⟨a, xs, rfl, per_sqT ha, fun ⟨h1, h2⟩ => k _ _ (Same.rf H) ?_, fun _ p hp => k _ _ (Same.new hp) (.tup (.inl ⟨_, rfl, upd_same⟩) (DA.sm (H := H) ?_ (Same.new hp)))⟩
    · have e : cutD ds lo hi = ds := by
        unfold cutD
        rw [← da.len, h1, h2, List.drop_zero, Nat.sub_zero, da.len, List.take_length]
      rw [e]
      exact .tup ha da
    · unfold cutD cutV
      rw [← da.len]
      exact (da.drop _).take _
end
end GX

set_option Elab.async false
set_option linter.all false
set_option maxRecDepth 100000
set_option maxHeartbeats 4000000
/-! G8: displays of what a value gives: parts, sums, texts. -/
namespace GX
open PySem PySem.Spec PyProof.Rows L2
/-- at i: a value that is d -/
def VarD (i : Nat) (d : PyData) (σ : L2.St) (H : Hp) : Prop := ∃ v, σ[i]? = some (some v) ∧ D (Per H) v d
/-- a display of what x gives -/
def tDV {α : Type} (C : α → L2.St → Hp → Prop) (ds : α → List PyData) : TA := fun σ H Q => ∃ x, C x σ H ∧ ∀ vs H2, Same H H2 → DA (Per H2) vs (ds x) → Q vs H2
theorem pa_dv {X : Cx} {es : List Expr} {ta : TA} {α : Type} {C : α → L2.St → Hp → Prop} {ds : α → List PyData} (h : PA X es ta) (k : ∀ x σ H, C x σ H → EvA ta σ H (ds x)) : PA X es (tDV C ds) :=
  ⟨fun pl pins s σ H Q I ⟨x, c, q⟩ => h.run pl pins s σ H Q I (k x σ H c H Q (Same.rf H) q)⟩
def rSlX (K : PySem.W.Frag) : V → Option Int → Option Int → Hp → VK → Prop := fun x lo hi H Q => rSlA K x lo hi H Q ∨ rSlS x lo hi H Q
theorem sl_X {X : Cx} : SlR X (rSlX X.K) := SlR.or sl_tupA sl_str
/-- a slice's part -/
def EvO (tl : TO) (σ : L2.St) (H : Hp) (o : Option Int) : Prop := ∀ (H1 : Hp) (Q : Option Int → Hp → Prop), Same H H1 → Q o H1 → tl σ H1 Q
section
variable {σ : L2.St} {H : Hp} {te tb : TE} {ta : TA} {tl th : TO} {d e : PyData} {ds es : List PyData} {v : V} {K : PySem.W.Frag} {lo hi : Option Int}
theorem ev_var {i : Nat} (h : VarD i d σ H) : EvD (tVar i) σ H d := fun H1 Q s k => let ⟨v, e, dv⟩ := h; ⟨v, e, k v H1 (Same.rf H1) (dv.sm s)⟩
theorem eo_non : EvO tNoPart σ H .none := fun H1 Q s q => q
theorem eo_int {i : Int} : EvO (tPart (tC (.int i))) σ H (some i) := fun H1 Q s q => ⟨i, rfl, q⟩
theorem eo_neg {i : Int} : EvO (tPart (tUn (rU fun i => .int (-i)) (tC (.int i)))) σ H (some (-i)) := fun H1 Q s q => ⟨i, rfl, -i, rfl, q⟩
theorem ev_slT (h : EvD te σ H (.tuple ds)) (h1 : EvO tl σ H lo) (h2 : EvO th σ H hi) : EvD (tSl (rSlX K) te tl th) σ H (.tuple (cutD ds lo hi)) := fun H1 Q s k =>
  h H1 _ s fun v H2 s2 d2 => h1 H2 _ (Same.tr s s2) (h2 H2 _ (Same.tr s s2) (.inl (dat_cut d2 fun w H3 s3 d3 => k w H3 (Same.tr s2 s3) d3)))
theorem ev_slS {x : Str} (hz : x.length ≤ sizeLine) (h : EvD te σ H (.str x)) (h1 : EvO tl σ H lo) (h2 : EvO th σ H hi) : EvD (tSl (rSlX K) te tl th) σ H (.str (cutS x lo hi)) := fun H1 Q s k =>
  h H1 _ s fun v H2 s2 d2 => h1 H2 _ (Same.tr s s2) (h2 H2 _ (Same.tr s s2) (.inr (by cases d2; exact ⟨x, rfl, hz, k _ H2 s2 (.str _)⟩)))
theorem ev_catT (h1 : EvD te σ H (.tuple ds)) (h2 : EvD tb σ H (.tuple es)) (hl : ds.length + es.length ≤ sizeLine) : EvD (tOp (rAddA K) te tb) σ H (.tuple (ds ++ es)) := fun H1 Q s k =>
  h1 H1 _ s fun v H2 s2 d2 => h2 H2 _ (Same.tr s s2) fun w H3 s3 d3 => .inr (.inr (.inr (dat_cat (d2.sm s3) d3 hl fun u H4 s4 d4 => k u H4 (Same.tr s2 (Same.tr s3 s4)) d4)))
theorem ev_catS {x y : Str} (h1 : EvD te σ H (.str x)) (h2 : EvD tb σ H (.str y)) (hl : x.length + y.length ≤ sizeLine) : EvD (tOp (rAddA K) te tb) σ H (.str (x ++ y)) := fun H1 Q s k =>
  h1 H1 _ s fun v H2 s2 d2 => h2 H2 _ (Same.tr s s2) fun w H3 s3 d3 => .inr (.inl (by cases d2; cases d3; exact ⟨x, y, rfl, rfl, hl, k _ H3 (Same.tr s2 s3) (.str _)⟩))
theorem ev_addI {i j : Int} (h1 : EvD te σ H (.int i)) (h2 : EvD tb σ H (.int j)) : EvD (tOp (rAddA K) te tb) σ H (.int (i + j)) := fun H1 Q s k =>
  h1 H1 _ s fun v H2 s2 d2 => h2 H2 _ (Same.tr s s2) fun w H3 s3 d3 => .inl (by cases d2; cases d3; exact ⟨i, j, rfl, rfl, k _ H3 (Same.tr s2 s3) (.int _)⟩)
theorem ev_subI {i j : Int} (h1 : EvD te σ H (.int i)) (h2 : EvD tb σ H (.int j)) : EvD (tOp (rI0 fun i j => .int (i - j)) te tb) σ H (.int (i - j)) := fun H1 Q s k =>
  h1 H1 _ s fun v H2 s2 d2 => h2 H2 _ (Same.tr s s2) fun w H3 s3 d3 => by cases d2; cases d3; exact ⟨i, j, rfl, rfl, k _ H3 (Same.tr s2 s3) (.int _)⟩
theorem ev_eqI {i j : Int} (h1 : EvD te σ H (.int i)) (h2 : EvD tb σ H (.int j)) : EvD (tOp (rEqA K) te tb) σ H (.bool (decide (V.int i = V.int j))) := fun H1 Q s k =>
  h1 H1 _ s fun v H2 s2 d2 => h2 H2 _ (Same.tr s s2) fun w H3 s3 d3 => .inl (by cases d2; cases d3; exact ⟨rfl, k _ H3 (Same.tr s2 s3) (.bl _)⟩)
theorem ev_negV {i : Int} (h1 : EvD te σ H (.int i)) : EvD (tUn (rU fun i => .int (-i)) te) σ H (.int (-i)) := fun H1 Q s k =>
  h1 H1 _ s fun v H2 s2 d2 => by cases d2; exact ⟨i, rfl, k _ H2 s2 (.int _)⟩
theorem ev_not {b : Bool} (h1 : EvD te σ H (.bool b)) : EvD (tNotV te) σ H (.bool (!b)) := fun H1 Q s k =>
  h1 H1 _ s fun v H2 s2 d2 => by cases d2; exact ⟨b, rfl, k _ H2 s2 (.bl _)⟩
theorem ev_rev (h : EvD te σ H (.tuple ds)) (hl : ds.length ≤ sizeLine) : EvD (tRevT K te) σ H (.tuple ds.reverse) := fun H1 Q s k =>
  h H1 _ s fun v H2 s2 d2 => by
    cases d2 with
    | tup ha da => exact ⟨_, _, rfl, per_sqT ha, fun p hp => k _ _ (Same.tr s2 (Same.new hp)) (.tup (.inl ⟨_, rfl, upd_same⟩) (da.rev.sm (Same.new hp)))⟩
theorem ev_intB {b : Bool} (h1 : EvA ta σ H [.bool b]) : EvD (tCB (fun xs H Q => (∃ i, xs = [V.int i] ∧ Q (V.int i) H) ∨ ∃ k, xs = [V.bl k] ∧ Q (V.int (if k = true then 1 else 0)) H) ta) σ H (.int (if b = true then 1 else 0)) := fun H1 Q s k =>
  h1 H1 _ s fun vs H2 s2 d2 => by
    cases d2 with
    | cons a b =>
      cases a
      cases b
      exact .inr ⟨_, rfl, k _ H2 s2 (.int _)⟩
theorem ev_strI {i : Int} (h1 : EvA ta σ H [.int i]) (hl : i.natAbs.log2 < 1920) : EvD (tCB (fun xs H Q => ∃ i, xs = [V.int i] ∧ i.natAbs.log2 < 1920 ∧ Q (V.str (Str.ofString (toString i))) H) ta) σ H (.str (Str.ofString (toString i))) := fun H1 Q s k =>
  h1 H1 _ s fun vs H2 s2 d2 => by
    cases d2 with
    | cons a b =>
      cases a
      cases b
      exact ⟨i, rfl, hl, k _ H2 s2 (.str _)⟩
theorem ev_lstT (h1 : EvA ta σ H [.tuple ds]) : EvD (tFz (tCB (fun xs H Q => ∃ p ys, xs = [V.ref p] ∧ (SqL K H p ys ∨ SqT K H p ys) ∧ ∀ l, H l = none → Q (V.ref l) (upd H l (HO.lst ys))) ta)) σ H (.list ds) := fun H1 Q s k =>
  h1 H1 _ s fun vs H2 s2 d2 => by
    cases d2 with
    | cons a b =>
      cases b
      cases a with
      | tup ha da => exact ⟨_, _, rfl, .inr (per_sqT ha), fun p hp => ⟨p, _, rfl, upd_same, rfl, fun o => k _ _ (Same.tr s2 (same_fz hp)) (.lst (.inr ⟨o, upd_same⟩) (da.sm (same_fz hp)))⟩⟩
theorem ev_upper {x : Str} (h : EvD te σ H (.str x)) (hl : x.length ≤ 5592405) : EvD (tBM0 K "str" (fun x xs H Q => ∃ a, x = .str a ∧ xs = [] ∧ a.length ≤ 5592405 ∧ Q (.str (Txt.upper a)) H) te) σ H (.str (Txt.upper x)) := fun H1 Q s k =>
  h H1 _ s fun v H2 s2 d2 => by
    cases d2
    exact ⟨rfl, x, rfl, rfl, hl, k _ H2 s2 (.str _)⟩
end

/-! ### kinds -/
def tyN : PyData → String
  | .none => "NoneType"
  | .bool _ => "bool"
  | .int _ => "int"
  | .str _ => "str"
  | .list _ => "list"
  | .tuple _ => "tuple"
  | .dict _ => "dict"
theorem tyX_of {K : PySem.W.Frag} {H : Hp} {v : V} {d : PyData} (h : D (Per H) v d) : TyX K H v (.type (tyN d)) := by
  cases h with
  | non => exact .base .non
  | bl b => exact .base (.bl b)
  | int i => exact .base (.int i)
  | str x => exact .base (.str x)
  | lst h _ =>
    rcases h with ⟨_, e, h⟩ | ⟨o, h⟩
    · cases e
    · exact .base (.frz h)
  | tup h _ =>
    rcases h with ⟨_, e, h⟩ | ⟨o, h⟩
    · cases e
      exact .base (.tup h)
    · exact .fTuple h
  | dic h _ =>
    rcases h with ⟨_, e, h⟩ | ⟨o, h⟩
    · cases e
    · exact .fDict h
theorem isi_dat {K : PySem.W.Frag} {H : Hp} {v : V} {d : PyData} {c : String} {b : Bool} {Q : VK} (h : D (Per H) v d) (e : PySem.W.kitOne K (.type (tyN d)) (.type c) = some b) (q : Q (.bl b) H) : rIsiA K [v, .ty c] H Q :=
  .inl ⟨v, _, _, _, b, rfl, .ty c, tyX_of h, e, q⟩
end GX

set_option Elab.async false
set_option linter.all false
set_option maxRecDepth 100000
set_option maxHeartbeats 4000000
/-! G9: one of some data; sizes of what a value gives. -/
namespace GX
open PySem PySem.Spec PyProof.Rows L2
theorem ifF {p q : Prop} (h : q) : if (false = true) then p else q := h
theorem ifT {p q : Prop} (h : p) : if (true = true) then p else q := h
theorem of_dat {K : PySem.W.Frag} {H H1 : Hp} {p l : Addr} {c : Nat} {o : HO} {vs : List V} {ds : List PyData} {Q : VK} {E : XK} (hp : H p = some o) (po : PotO c o) (hc : c ≤ 90000) (s1 : Same H H1) (f1 : H1 l = none) (d1 : DA (Per H1) vs ds) (n1 : 1 ≤ ds.length) (n2 : ds.length ≤ 1000)
    (k : ∀ H' o' v d, Bt p H H' → H' p = some o' → PotO (c + 1) o' → D (Per H') v d → d ∈ ds → Q v H') : spOf K [.ref p, .ref l] (upd H1 l (.lst vs)) Q E := by
  have hp1 := s1 _ _ hp
  have n := ne_of_none hp1 f1
  have hp2 : upd H1 l (.lst vs) p = some o := by rw [upd_ne n]; exact hp1
  refine ⟨p, l, c, o, vs, rfl, hp2, po, hc, Ne.symm n, .inl (SqL.of upd_same), by rw [d1.len]; exact n1, by rw [d1.len]; exact n2, fun H' o' v b hp' po' hv => ?_⟩
  obtain ⟨d, hd, dv⟩ := d1.mem hv
  exact k H' o' v d (Bt.trans (Same.bt (Same.tr s1 (Same.new f1))) b) hp' po' (D.mono (Per.mo (Bt.mo b hp2 po.imm)) (dv.sm (Same.new f1))) hd

/-! ### texts -/
theorem ascT_iff {x : Str} : ascT x = true ↔ ∀ c ∈ x.cps.toList, c < 128 := by
  unfold ascT
  rw [List.all_eq_true]
  exact ⟨fun h c hc => of_decide_eq_true (h c hc), fun h c hc => decide_eq_true (h c hc)⟩
theorem cps_app (x y : Str) : (x ++ y).cps.toList = x.cps.toList ++ y.cps.toList := by
  show (x.cps ++ y.cps).toList = _
  exact Array.toList_append
theorem ascT_app {x y : Str} (h : ascT x = true) (k : ascT y = true) : ascT (x ++ y) = true := by
  rw [ascT_iff, cps_app]
  intro c hc
  rcases List.mem_append.mp hc with hc | hc
  · exact ascT_iff.mp h c hc
  · exact ascT_iff.mp k c hc
theorem ascT_cut {x : Str} {lo hi : Option Int} (h : ascT x = true) : ascT (cutS x lo hi) = true := by
  rw [ascT_iff]
  intro c hc
  have hc' : c ∈ (x.cps.toList.drop (HT.sIx x.length 0 lo)).take (HT.sIx x.length x.length hi - HT.sIx x.length 0 lo) := by
    unfold cutS at hc
    exact List.mem_toArray.mp (by simpa using hc)
  exact ascT_iff.mp h c (List.mem_of_mem_drop (List.mem_of_mem_take hc'))
theorem cutS_len (x : Str) (lo hi : Option Int) : (cutS x lo hi).length ≤ x.length := by
  show (List.toArray _).size ≤ x.cps.size
  rw [List.size_toArray, List.length_take, List.length_drop, Array.length_toList]
  omega
theorem up1_lt {c : Nat} (h : c < 128) : up1 c < 128 := by
  unfold up1
  split <;> omega
theorem upper_asc {x : Str} (h : ascT x = true) : ascT (Txt.upper x) = true ∧ (Txt.upper x).length = x.length := by
  rw [upper_ascii (ascT_iff.mp h)]
  refine ⟨ascT_iff.mpr fun c hc => ?_, Array.size_map ..⟩
  have hc' : c ∈ x.cps.toList.map up1 := by rw [← Array.toList_map]; exact hc
  obtain ⟨a, ha, rfl⟩ := List.mem_map.mp hc'
  exact up1_lt (ascT_iff.mp h a ha)
theorem ascT_num (i : Int) : ascT (Str.ofString (toString i)) = true := by
  rw [ascT_iff]
  intro c hc
  by_cases h : c < 128
  · exact h
  · exact absurd hc (int_text_free' c ⟨by omega, .inr (by omega)⟩ i)
theorem num_len (i : Int) : (Str.ofString (toString i)).length ≤ i.natAbs.log2 + 2 := by
  rw [PySem.ofString_length]
  exact int_text_length_le (by omega) (by omega)
theorem log2_near {a b : Nat} (h : a ≤ b + 1) : a.log2 ≤ b.log2 + 1 := by
  by_cases h0 : a = 0
  · subst h0
    exact Nat.zero_le _
  · have h1 : b < 2 ^ (b.log2 + 1) := Nat.lt_log2_self
    have h2 : a < 2 ^ (b.log2 + 2) := by
      have : 2 ^ (b.log2 + 2) = 2 ^ (b.log2 + 1) * 2 := Nat.pow_succ ..
      omega
    have := (Nat.log2_lt h0).mpr h2
    omega

/-! ### sizes -/
theorem gd_non {n m : Nat} (h : 4 ≤ n) : Gd n m .none := ⟨h, Nat.zero_le _, rfl⟩
theorem gd_bl {n m : Nat} {b : Bool} (h : 5 ≤ n) : Gd n m (.bool b) := ⟨h, Nat.zero_le _, rfl⟩
theorem gd_int {n m : Nat} {i : Int} (h : i.natAbs.log2 + 4 ≤ n) : Gd n m (.int i) := ⟨h, Nat.zero_le _, rfl⟩
theorem gd_str {n m : Nat} {x : Str} (h : x.length + 2 ≤ n) (a : ascT x = true) : Gd n m (.str x) := ⟨h, Nat.zero_le _, a⟩
theorem gd_str' {n m : Nat} {x : Str} (g : Gd n m (.str x)) : x.length + 2 ≤ n ∧ ascT x = true := ⟨g.w, g.as⟩
theorem gd_int' {n m : Nat} {i : Int} (g : Gd n m (.int i)) : i.natAbs.log2 + 4 ≤ n := g.w
end GX

set_option Elab.async false
set_option linter.all false
set_option maxRecDepth 100000
set_option maxHeartbeats 4000000
/-! G10: exceptions that keep a value, made in displays; which ones they are. -/
namespace GX
open PySem PySem.Spec PyProof.Rows L2
/-- self.value = value -/
def spInit (K : PySem.W.Frag) : Sp := fun vs H Q _ => ∃ (a C : Addr) (v : V), vs = [.ref a, v] ∧ OexC K C ∧ PySem.W.findIn K (.ref C) "value" = some none ∧ H a = some (exo a C none) ∧
  ∀ dx, H dx = none → dx ≠ a → Q .non (upd (upd H dx (exd dx [("value", v)])) a (exo a C (some dx)))
/-- an error class: its name, its facts -/
structure EC (K : PySem.W.Frag) (mg : Str → Option Value) (fI : Addr) (x : Str) (C : Addr) : Prop where
  f : ExcF K C fI
  hm : mg x = some (.ref C)
/-- their common __init__ -/
structure IN (P : Program) (w : World) (K : PySem.W.Frag) (mg : Str → Option Value) (base : Heap) (fI : Addr) : Prop where
  ex : ∃ (fd : FuncData) (ps : List Str), FnG P w K mg base CX0 1 fI fd ps (spInit K) ∧ Binds K fd ps []
theorem pe_ex {X : Cx} {fI C : Addr} {x : Str} {p pos : Pos} {e : Expr} {ta : TA} {k : Nat} (h : EC X.K X.mg fI x C) (i : IN X.prog X.w X.K X.mg X.base fI) (hr : RmG k X.A) (hk : 2 ≤ k) (ha : PA X [e] ta) (hg : Gl X x := by rfl)
    (hdb : (x == ("__debug__" : Str)) = false := by decide) (he : starEach [e] X.env = (false, eval e X.env) :: starEach [] X.env := by rfl) (hpl : (backTo pos (starEach [] X.env)).any (·.1) = false := by rfl) :
    PE X (.Call (.Name x p) [e] [] pos) (tMkV C (spInit X.K) E0 ta) := by
  obtain ⟨fd, ps, F, hb⟩ := i.ex
  exact pe_mkV h.f.ox h.f.iC h.f.tI F (hr.mono hk) hb pass0 hg h.hm ha hdb he hpl
/-- each one at its place, with v -/
inductive ExL (H : Hp) (v : V) : List V → List Addr → Prop
  | nil : ExL H v [] []
  | cons {e C : Addr} {vs : List V} {Cs : List Addr} : ExAt H e C [("value", v)] → ExL H v vs Cs → ExL H v (.ref e :: vs) (C :: Cs)
theorem ExL.sm {H H' : Hp} {v : V} {vs : List V} {Cs : List Addr} (h : ExL H v vs Cs) (s : Same H H') : ExL H' v vs Cs := by
  induction h with
  | nil => exact .nil
  | cons a _ ih => exact .cons (a.mo (Same.mo s)) ih
theorem ExL.app {H : Hp} {v : V} {vs vs' : List V} {Cs Cs' : List Addr} (h : ExL H v vs Cs) (k : ExL H v vs' Cs') : ExL H v (vs ++ vs') (Cs ++ Cs') := by
  induction h with
  | nil => exact k
  | cons a _ ih => exact .cons a ih
theorem ExL.len {H : Hp} {v : V} {vs : List V} {Cs : List Addr} (h : ExL H v vs Cs) : vs.length = Cs.length := by
  induction h with
  | nil => rfl
  | cons a _ ih => exact congrArg Nat.succ ih
theorem ExL.get {H : Hp} {v : V} {vs : List V} {Cs : List Addr} (h : ExL H v vs Cs) : ∀ {i : Nat} {C : Addr}, Cs[i]? = some C → ∃ e, vs[i]? = some (.ref e) ∧ ExAt H e C [("value", v)] := by
  induction h with
  | nil => intro i C e; simp at e
  | @cons e C' vs Cs a b ih =>
    intro i C ei
    cases i with
    | zero =>
      have z : C' = C := by simpa using ei
      subst z
      exact ⟨e, rfl, a⟩
    | succ i =>
      obtain ⟨e', h1, h2⟩ := ih (i := i) (C := C) (by simpa using ei)
      exact ⟨e', by simpa using h1, h2⟩
def EvE (te : TE) (σ : L2.St) (H : Hp) (v : V) (C : Addr) : Prop := ∀ (H1 : Hp) (Q : VK), Same H H1 → (∀ e H2, Same H1 H2 → ExAt H2 e C [("value", v)] → Q (.ref e) H2) → te σ H1 Q
def EvEs (ta : TA) (σ : L2.St) (H : Hp) (v : V) (Cs : List Addr) : Prop := ∀ (H1 : Hp) (Q : List V → Hp → Prop), Same H H1 → (∀ vs H2, Same H1 H2 → ExL H2 v vs Cs → Q vs H2) → ta σ H1 Q
section
variable {σ : L2.St} {H : Hp} {te : TE} {ta : TA} {K : PySem.W.Frag} {C fI : Addr} {Cs : List Addr} {v : V}
theorem ee_mk {i : Nat} {E : XK} (h : ExcF K C fI) (hv : σ[i]? = some (some v)) : EvE (tMkV C (spInit K) E (tCons (tVar i) tNil)) σ H v C := fun H1 Q s k =>
  ⟨v, hv, by show 1 ≤ 1000; decide, fun a fa => ⟨a, C, v, rfl, h.ox, h.noV, upd_same, fun dx fd nd => ⟨rfl, by
    have fd1 : H1 dx = none := by rw [upd_ne nd] at fd; exact fd
    have sm : Same H1 (upd (upd (upd H1 a (exo a C none)) dx (exd dx [("value", v)])) a (exo a C (some dx))) := fun b o e => by
      rw [upd_ne (ne_of_none e fa), upd_ne (ne_of_none e fd1), upd_ne (ne_of_none e fa)]
      exact e
    exact k a _ sm ⟨dx, .inl upd_same, Or.inl (by rw [upd_ne nd, upd_same])⟩⟩⟩⟩
theorem ee_nil : EvEs tNil σ H v [] := fun H1 Q s k => k _ H1 (Same.rf H1) .nil
theorem ee_cons (h1 : EvE te σ H v C) (h2 : EvEs ta σ H v Cs) : EvEs (tCons te ta) σ H v (C :: Cs) := fun H1 Q s k =>
  h1 H1 _ s fun e H2 s2 d2 => h2 H2 _ (Same.tr s s2) fun vs H3 s3 d3 => k _ _ (Same.tr s2 s3) (.cons (d2.mo (Same.mo s3)) d3)
end
theorem cat_lst {K : PySem.W.Frag} {H1 H2 : Hp} {l1 l2 : Addr} {vs1 vs2 : List V} {Q : VK} (e1 : H1 l1 = some (.lst vs1)) (s2 : Same H1 H2) (f2 : H2 l2 = none) (hl : vs1.length + vs2.length ≤ sizeLine)
    (k : ∀ l H3, Same H2 H3 → H3 l = some (.lst (vs1 ++ vs2)) → Q (.ref l) H3) : rAddA K (.ref l1) (.ref l2) (upd H2 l2 (.lst vs2)) Q := by
  have e2 := s2 _ _ e1
  have n := ne_of_none e2 f2
  exact .inr (.inr (.inl ⟨l1, l2, vs1, vs2, rfl, rfl, by rw [upd_ne n]; exact e2, upd_same, hl, fun l f => k l _ (Same.tr (Same.new f2) (Same.new f)) upd_same⟩))
theorem cat_ex {K : PySem.W.Frag} {H1 H2 : Hp} {l1 l2 : Addr} {v : V} {vs1 vs2 : List V} {C1 C2 : List Addr} {Q : VK} (x1 : ExL H1 v vs1 C1) (e1 : H1 l1 = some (.lst vs1)) (s2 : Same H1 H2) (f2 : H2 l2 = none) (x2 : ExL H2 v vs2 C2) (hl : C1.length + C2.length ≤ 1000)
    (k : ∀ vs l H3, Same H1 H3 → H3 l = some (.lst vs) → ExL H3 v vs (C1 ++ C2) → Q (.ref l) H3) : rAddA K (.ref l1) (.ref l2) (upd H2 l2 (.lst vs2)) Q :=
  cat_lst e1 s2 f2 (by rw [x1.len, x2.len]; exact Nat.le_trans hl (by decide)) fun l H3 s3 e3 => k _ l H3 (Same.tr s2 s3) e3 (((x1.sm s2).app x2).sm s3)
theorem cat_da {K : PySem.W.Frag} {H1 H2 : Hp} {l1 l2 : Addr} {vs1 vs2 : List V} {d1 d2 : List PyData} {Q : VK} (x1 : DA (Per H1) vs1 d1) (e1 : H1 l1 = some (.lst vs1)) (s2 : Same H1 H2) (f2 : H2 l2 = none) (x2 : DA (Per H2) vs2 d2) (hl : d1.length + d2.length ≤ 1000)
    (k : ∀ vs l H3, Same H1 H3 → H3 l = some (.lst vs) → DA (Per H3) vs (d1 ++ d2) → Q (.ref l) H3) : rAddA K (.ref l1) (.ref l2) (upd H2 l2 (.lst vs2)) Q :=
  cat_lst e1 s2 f2 (by rw [x1.len, x2.len]; exact Nat.le_trans hl (by decide)) fun l H3 s3 e3 => k _ l H3 (Same.tr s2 s3) e3 (((x1.sm s2).app x2).sm s3)
/-- errors made with what stands at i -/
def tEX (i : Nat) (Cs : List Addr) : TA := fun σ H Q => ∃ v, σ[i]? = some (some v) ∧ ∀ vs H2, Same H H2 → ExL H2 v vs Cs → Q vs H2
theorem pa_ex {X : Cx} {es : List Expr} {ta : TA} {i : Nat} {Cs : List Addr} (h : PA X es ta) (k : ∀ v σ H, σ[i]? = some (some v) → EvEs ta σ H v Cs) : PA X es (tEX i Cs) :=
  ⟨fun pl pins s σ H Q I ⟨v, c, q⟩ => h.run pl pins s σ H Q I (k v σ H c H Q (Same.rf H) q)⟩
/-- the error at i is of the class C -/
def VarE (K : PySem.W.Frag) (i : Nat) (C : Addr) (σ : L2.St) (H : Hp) : Prop := ∃ (e fI : Addr) (fs : List (Str × V)), σ[i]? = some (some (.ref e)) ∧ ExAt H e C fs ∧ ExcF K C fI
theorem ev_isi {K : PySem.W.Frag} {σ : L2.St} {H : Hp} {i : Nat} {C C' : Addr} {b : Bool} (h : VarE K i C σ H) (kb : PySem.W.kitOne K (.ref C) (.ref C') = some b) : EvD (tCB (rIsiA K) (tCons (tVar i) (tCons (tC (.ref C')) tNil))) σ H (.bool b) := fun H1 Q s k => by
  obtain ⟨e, fI, fs, hs, ea, T⟩ := h
  exact ⟨_, hs, .inr ⟨e, C, fI, fs, _, _, b, rfl, .own C', ea.mo (Same.mo s), T, kb, k _ H1 (Same.rf H1) (.bl b)⟩⟩
end GX

set_option Elab.async false
set_option linter.all false
set_option maxRecDepth 100000
set_option maxHeartbeats 4000000
/-! G11: lists of truths; what a change of something that may change keeps. -/
namespace GX
open PySem PySem.Spec PyProof.Rows L2
theorem DA.bls {L : Rdr} : ∀ {bs : List Bool} {xs : List V}, DA L xs (bs.map PyData.bool) → xs = bs.map V.bl
  | [], _, h => by cases h; rfl
  | b :: bs, _, h => by
    cases h with
    | cons a r =>
      cases a
      rw [DA.bls r]
      rfl
theorem bls_da {L : Rdr} : ∀ bs : List Bool, DA L (bs.map V.bl) (bs.map PyData.bool)
  | [] => .nil
  | b :: bs => .cons (.bl b) (bls_da bs)
theorem eqv_bls (bs : List Bool) : PyData.eqv (.list (bs.map PyData.bool)) (.list (bs.map PyData.bool)) = true := by
  have h : ∀ bs : List Bool, PyData.eqvAll (bs.map PyData.bool) (bs.map PyData.bool) = true := by
    intro bs
    induction bs with
    | nil => simp [PyData.eqvAll]
    | cons b bs ih => simp [PyData.eqvAll, PyData.eqv, ih]
  simp only [PyData.eqv, h]
theorem shaped_bls (bs : List Bool) : SeqAt.shaped (.list (bs.map PyData.bool)) = true := by
  have h : ∀ bs : List Bool, PyData.canLayAll0 (bs.map PyData.bool) = true ∧ PyData.depthAll (bs.map PyData.bool) = 0 := by
    intro bs
    induction bs with
    | nil => exact ⟨by simp [PyData.canLayAll0], by simp [PyData.depthAll]⟩
    | cons b bs ih => exact ⟨by simp [PyData.canLayAll0, PyData.canLay0, ih.1], by simp [PyData.depthAll, PyData.depth, ih.2]⟩
  unfold SeqAt.shaped
  simp only [PyData.canLay0, PyData.depth, (h bs).1, (h bs).2]
  decide
theorem Mo.over {H : Hp} {a : Addr} {u x y : HO} (e : H a = some u) (i : Imm u = false) : Mo H (upd (upd H a x) a y) := fun b w k q => by
  have n : b ≠ a := fun z => by
    subst z
    rw [e] at q
    cases q
    rw [i] at k
    cases k
  rw [upd_ne n, upd_ne n]
  exact q
theorem ifF1 {c : Bool} {p q : Prop} (e : c = false) (h : q) : if c = true then p else q := by subst e; exact h
theorem ifT1 {c : Bool} {p q : Prop} (e : c = true) (h : p) : if c = true then p else q := by subst e; exact h
end GX

set_option Elab.async false
set_option linter.all false
set_option maxRecDepth 100000
set_option maxHeartbeats 4000000
/-! G12: a head's Hook with checks of one's own; sys.modules stands in the written part. -/
namespace GX
open PySem PySem.Spec PyProof.Rows L2
def ksysB (K : PySem.W.Frag) : Bool := match K.lookup sysModules with
  | some ⟨_, _, .dict _ _, _⟩ => true
  | _ => false
theorem ksys_ok {K : PySem.W.Frag} (h : ksysB K = true) : KSys K := by
  unfold ksysB at h
  split at h
  · rename_i o e
    exact ⟨_, _, _, e, rfl⟩
  · cases h
def obsX (xb : PySem.W.Frag → Bool) (fa : List He.Fa) (fn : List He.DefD) (K : PySem.W.Frag) : He.AlD := (((fa.all fun f => f.ok K) && fn.all fun d => d.ok K) && (ksysB K && xb K), fn.map fun d => He.fnW K d.at_)
def SaysX (xb : PySem.W.Frag → Bool) (fa : List He.Fa) (fn : List He.DefD) (K : PySem.W.Frag) : Prop := obsX xb fa fn K = He.valD fn
def obsXG (n : Nat) (xb : PySem.W.Frag → Bool) (fa : List He.Fa) (fn : List He.DefD) (g : Addr → Option Obj) : He.AlD := obsX xb fa fn (He.frG g (He.asD g n ++ [sysModules]))
def hookX (n : Nat) (xb : PySem.W.Frag → Bool) (fa : List He.Fa) (fn : List He.DefD) : PySem.W.Hook where
  α := He.AlD
  obs := fun s => obsXG n xb fa fn s.heap.get?
  val := fun _ => He.valD fn
  says := fun _ h => ∃ K : PySem.W.Frag, K.In h ∧ SaysX xb fa fn K
  of := fun _ _ e => ⟨_, He.frG_in, e⟩
  keeps := fun _ _ _ ⟨K, hK, c⟩ k => ⟨K, PySem.W.Frag.In.keeps hK k, c⟩
theorem obsXG_eq {n : Nat} {xb : PySem.W.Frag → Bool} {fa : List He.Fa} {fn : List He.DefD} {g : Addr → Option Obj} {s : Shared} (h : ∀ a, g a = s.heap.get? a) : obsXG n xb fa fn g = (hookX n xb fa fn).obs s := by
  rw [show g = s.heap.get? from funext h]
  rfl
section
variable {xb : PySem.W.Frag → Bool} {fa : List He.Fa} {fn : List He.DefD} {K : PySem.W.Frag}
theorem SaysX.base (c : SaysX xb fa fn K) : He.SaysD fa fn K ∧ ksysB K = true ∧ xb K = true := by
  have c1 := show (((fa.all fun f => f.ok K) && fn.all fun d => d.ok K) && (ksysB K && xb K)) = true from congrArg (fun z : He.AlD => z.1) c
  have c2 := show (fn.map fun d => He.fnW K d.at_) = fn.map He.DefD.val from congrArg (fun z : He.AlD => z.2) c
  obtain ⟨h1, h2⟩ := He.ba c1
  obtain ⟨h3, h4⟩ := He.ba h2
  exact ⟨Prod.ext h1 c2, h3, h4⟩
end
end GX

set_option Elab.async false
set_option linter.all false
set_option maxRecDepth 100000
set_option maxHeartbeats 4000000
/-! G13: a caught error as a value. -/
namespace GX
open PySem PySem.Spec PyProof.Rows L2
section
variable {X : Cx} {pins : List (Addr × Obj)} {σ : L2.St} {H : Hp} {s : Shared}
/-- an exception that lies untracked is tracked -/
theorem Inv.track {a C d : Addr} {oe : Obj} {vs : Array Value} (I : Inv X pins σ H s) (hx : X.ex = []) (na : H a = none) (n0 : X.s_0.heap.get? a = none) (nL : a ≠ X.env.locals) (nP : ∀ p ∈ X.pn ++ pins, p.1 ≠ a)
    (nC : ∀ x c, X.env.cells.lookup x = some c → c ≠ a) (ha : s.heap.get? a = some oe) (hc : oe.cls = .ref C) (hd : oe.dict = some d) (hv : oe.data = .fields vs) : Inv X pins σ (upd H a (exv a C d)) s := by
  have keep : ∀ b u, H b = some u → upd H a (exv a C d) b = some u := fun b u e => by
    rw [upd_ne (ne_of_none e na)]
    exact e
  have old : ∀ b o, X.s_0.heap.get? b = some o → b ≠ a := fun b o e z => by
    rw [z, n0] at e
    cases e
  refine ⟨I.ok, I.os, I.bare, ?_, I.loc, I.cell, ?_, ?_, ?_, ?_, I.len⟩
  · refine ⟨I.base.keep, I.base.slot, fun b o e n x => ?_, I.base.there, fun b xs e => keep _ _ (I.base.tups b xs e), fun b o u e => keep _ _ (I.base.frzs b o u e), fun b ps e => ?_⟩
    · rw [upd_ne (old b o e)]
      exact I.base.free b o e n x
    · obtain ⟨more, q⟩ := I.base.tbls b ps e
      exact ⟨more, keep _ _ q⟩
  · rw [upd_ne (Ne.symm nL)]
    exact I.free
  · intro x c e
    rw [upd_ne (nC x c e)]
    exact I.freeC x c e
  · intro p hp
    obtain ⟨p1, p2, p3, p4, p5⟩ := I.pin p hp
    exact ⟨p1, by rw [upd_ne (nP p hp)]; exact p2, p3, p4, p5⟩
  · intro b u e
    have st : ∀ {c : Addr} {w : HO}, ObjOk X.prog X.w H s.heap c w → ObjOk X.prog X.w (upd H a (exv a C d)) s.heap c w := fun {c w} z =>
      z.stay (fun _ _ _ q => q) (fun x q => keep _ _ q) (fun x xs q => keep _ _ q)
    by_cases hb : b = a
    · subst hb
      rw [upd_same] at e
      cases e
      exact ⟨⟨oe, vs, ha, hc, hd, hv⟩, ⟨oe, ha⟩, fun h1 h2 ⟨o, ws, q1, q2⟩ k => ⟨o, ws, k o q1, q2⟩⟩
    · rw [upd_ne hb] at e
      exact st (I.hok b u e)
end
/-- what is wished of an exception by: except x as n, its suite told by ts; behind the suite's end the exception is tracked -/
def wCt (K : PySem.W.Frag) (c : Value) (i : Nat) (ts : Addr → Value → Option Addr → TS) (Wout : WX) (D : Ends) : WX := fun cls d σ H =>
  ∃ b, PySem.W.exmOne K cls c = some b ∧ (b = false → Wout cls d σ H) ∧
    (b = true → ∃ C dx, cls = .ref C ∧ d = some dx ∧ ∀ a, H a = none → ts a cls d { nx := fun σ' H' => D.nx (σ'.set i none) (upd H' a (exv a C dx)), rt := fun _ _ => False, bk := fun _ _ => False, ct := fun _ _ => False } (σ.set i (some (.ref a))) H)
section
variable {X : Cx} {x n : Str} {c : Value} {i : Nat} {body suite : List Stmt} {b₀ : Stmt} {np pos pos' : Pos} {tb : WX → TS} {ts : Addr → Value → Option Addr → TS} {Wout : WX}
theorem ps_try_ct (hex : X.ex = []) (hs : X.stack = X.env :: X.outer) (hf : X.env.frame = some X.env.locals) (hN : X.N.Nodup) (hi : X.N[i]? = some n) (hln : X.env.kindOf n = some .local) (hc : Names X x c) (tk : L2.Takes X Wout)
    (hb : ∀ (W : WX) (pn : List (Addr × Obj)) (xe : Value → Shared → Prop), L2.Takes (X.tr pn xe) W → PassesOwn (model X.prog X.w) X.A X.env xe → PSs (X.tr pn xe) body (tb W))
    (hsu : ∀ (a : Addr) (oe : Obj) (cls : Value) (d : Option Addr) (pn : List (Addr × Obj)), L2.Zc cls d oe → (∃ vs, oe.data = .fields vs) → PSs (X.suite a ((a, oe) :: pn)) (b₀ :: suite) (ts a cls d)) :
    PS X (.Try body [.ExceptHandler (some (.Name x np)) (some n) (b₀ :: suite) pos'] [] [] pos) (fun D σ H => tb (wCt X.K c i ts Wout D) D σ H) := by
  refine ⟨fun pins s0 σ0 H0 D I0 h0 => ?_⟩
  have okX := I0.ok
  have frm : X.A.frames = some (X.env :: X.outer) := okX.frames.trans (congrArg some hs)
  let hl : List ExceptHandler := [.ExceptHandler (some (.Name x np)) (some n) (b₀ :: suite) pos']
  let xeT : Value → Shared → Prop := fun e s₁ => wpAny (model X.prog X.w) X.A (noteFrame e X.env) (fun _ s₂ => wpAny (model X.prog X.w) X.A (setFlight e none)
    (fun _ s₃ => wpAny (model X.prog X.w) X.A (handleBy e X.env hl) (SP X pins D) X.xe s₃) X.xe s₂) X.xe s₁
  have key : L2.Takes (X.tr (X.pn ++ pins) xeT) (wCt X.K c i ts Wout D) := by
    rintro _ st ⟨a, Bg, sA, pA, σA, HA, cls, d, rfl, JA, inB, upA, skyA, naA, osA, agA, b, hexm, hno, hyes⟩
    have JI : Inv X pins σA HA sA := JA.ofTry okX
    show wpAny (model X.prog X.w) X.A (noteFrame (.ref a) X.env) _ _ _
    refine Sky.land L2.Zc.steady frm hf (by rw [← hs]; exact skyA) fun hA flA upB => ?_
    have JL : Inv X pins σA HA { st with heap := hA } := JI.landed inB flA.1 (upA.trans upB) osA agA
    obtain ⟨oA, vA, hoA, hzA, hvA⟩ := flA.there
    have notFrame : a ∉ frs (X.env :: X.outer) := fun hm => by
      obtain ⟨_, o2, e2, nf⟩ := flA.2.2.1.mem hm
      rw [hoA] at e2
      cases e2
      exact nf _ hvA
    have freshA : sA.heap.get? a = none := by
      cases e : sA.heap.get? a with
      | none => rfl
      | some o =>
        have z := inB a o e (show a ∉ frs X.stack by rw [hs]; exact notFrame)
        rw [flA.2.1] at z
        cases z
    have aL : a ≠ X.env.locals := fun z => notFrame (List.mem_filterMap.mpr ⟨X.env, List.mem_cons_self, by rw [hf, z]⟩)
    have aF : a ∉ X.fs := fun hm => let ⟨e, he, q⟩ := List.mem_filterMap.mp hm; notFrame (List.mem_filterMap.mpr ⟨e, List.mem_cons_of_mem _ he, q⟩)
    have a0 : X.s_0.heap.get? a = none := by
      cases e : X.s_0.heap.get? a with
      | none => rfl
      | some o =>
        obtain ⟨o', z⟩ := JI.base.there a o e (by rw [hex]; exact List.not_mem_nil)
        rw [freshA] at z
        cases z
    have aP : ∀ p ∈ X.pn ++ pins, p.1 ≠ a := fun p hp z => by
      have q := (JI.pin p hp).1
      rw [z, freshA] at q
      cases q
    have aC : ∀ y q, X.env.cells.lookup y = some q → q ≠ a := fun y q e z => by
      obtain ⟨v, o, ho, _⟩ := JI.cell y q e
      rw [z, freshA] at ho
      cases ho
    have SA := JL.suite hoA hvA naA aL aF
    refine wpAny_handleBy_cons (codeAny_handlers_test ?_) (by intro q; cases q)
    have isT : PySem.W.Looks (model X.prog X.w) hA (typeOf (.ref a)) cls := fun A Q E s k q => wpAny_typeOf_ref (k _ _ hoA) (by rw [hzA.1]; exact q)
    have isM := PySem.W.exm_one (M := model X.prog X.w) JL.kIn isT hexm
    have named : ∀ {Q E : Value → Shared → Prop}, Q c { st with heap := hA } → wpAny (model X.prog X.w) (X.A.mark (some (.ref a))) (eval (.Name x np) X.env) Q E { st with heap := hA } := fun {Q E} q => by
      obtain ⟨g1, g2, g3 | ⟨g3, g4, g5⟩⟩ := hc
      · exact ld_glob (X := X.suite a ((a, oA) :: (X.pn ++ pins))) SA g1 g3 q g2
      · exact ld_blt (X := X.suite a ((a, oA) :: (X.pn ++ pins))) SA g1 g3 g4 q g5 g2
    refine named (isM.here ?_)
    cases b with
    | true =>
      obtain ⟨C, dx, rfl, rfl, told⟩ := hyes rfl
      refine codeAny_handlers_suite_as (HandSPX.lands_againZ flA fun hB flB upC => ?_)
      have JM : Inv X pins σA HA { st with heap := hB } := JI.landed inB flB.1 ((upA.trans upB).trans upC) osA agA
      obtain ⟨oB, vB, hoB, hzB, hvB⟩ := flB.there
      have SB := JM.suite hoB hvB naA aL aF
      refine store_ok (X := X.suite a ((a, oB) :: (X.pn ++ pins))) (v := .ref a) SB hN hi (.inl hln) rfl (fun s5 S5 => ?_) (.inr hln)
      have ran := (hsu a oB (.ref C) (some dx) (X.pn ++ pins) hzB ⟨_, hvB⟩).run [] s5 _ HA _ S5 (told a naA)
      refine wpAny_mono ran (fun fl s6 post => ?_) fun _ _ z => z.elim
      cases fl with
      | next =>
        obtain ⟨σ6, H6, S6, q6⟩ := post
        have J6 : Inv X (pins ++ [(a, oB)]) σ6 H6 s6 := ⟨okX, S6.os, S6.bare, S6.base, S6.loc, S6.cell, S6.free, S6.freeC, fun p hp => S6.pin p (by
          rcases List.mem_append.mp hp with h | h
          · exact List.mem_append_left _ (List.mem_cons_of_mem _ (List.mem_append_left _ h))
          · rcases List.mem_append.mp h with h | h
            · exact List.mem_append_left _ (List.mem_cons_of_mem _ (List.mem_append_right _ h))
            · rw [List.mem_singleton.mp h]
              exact List.mem_append_left _ List.mem_cons_self), S6.hok, S6.len⟩
        refine gone_ok J6 hN hi hln fun s7 J7 => ?_
        obtain ⟨g1, g2, g3, g4, g5⟩ := J7.pin (a, oB) (by simp)
        exact ⟨_, _, Inv.track (J7.pins_of fun p hp => J7.pin p (List.mem_append_right _ (List.mem_append_left _ hp))) hex g2 a0 aL aP aC g1 hzB.1 hzB.2 hvB, q6⟩
      | brk => exact (post.elim fun _ z => z.elim fun _ z => z.2).elim
      | cont => exact (post.elim fun _ z => z.elim fun _ z => z.2).elim
      | ret u => exact (post.elim fun _ z => z.elim fun _ z => z.elim fun _ z => z.2.2).elim
    | false =>
      show wpAny _ X.A (handleBy (.ref a) X.env []) _ _ _
      refine wpAny_handleBy_nil ?_
      obtain ⟨k1, k2, k3, oe, vs, T, oT, tq, he, hz, hd, h1, hr⟩ := id flA
      have nz : ¬ ((Value.ref T == Value.none) = true) := by simp
      have up : wpAny (model X.prog X.w) X.A (setFlight (.ref a) X.env.frame) (fun _ s4 => wpAny (model X.prog X.w) X.A (throw (.ref a) : Sem Flow) (SP X pins D) X.xe s4) X.xe { st with heap := hA } := by
        rw [hf]
        exact HandSPX.setFlight_upZ flA fun hC held upC => wpAny_throw (tk _ _ ⟨a, Bg, sA, pins, σA, HA, cls, d, rfl, JI, inB, (upA.trans upB).trans upC, .inr (.inr (by rw [hs]; exact held)), naA, osA, agA, hno rfl⟩)
      unfold PySem.passOn
      refine wpAny_bind (wpAny_field he hd h1 ?_)
      rw [if_neg nz]
      first
        | exact wpAny_bind (wpAny_pure (wpAny_bind up))
        | exact wpAny_bind up
  refine wpAny_Try_except (wpAny_mono ((hb (wCt X.K c i ts Wout D) (X.pn ++ pins) xeT key PassesOwn.looking).run [] s0 σ0 H0 D (I0.toTry xeT) h0) (fun fl s1 post => ?_) fun e s1 z => z)
  cases fl with
  | next =>
    obtain ⟨σ', H', J', q⟩ := post
    exact wpAny_execs_nil ⟨σ', H', J'.ofTry okX, q⟩
  | brk =>
    obtain ⟨σ', H', J', q⟩ := post
    exact ⟨σ', H', J'.ofTry okX, q⟩
  | cont =>
    obtain ⟨σ', H', J', q⟩ := post
    exact ⟨σ', H', J'.ofTry okX, q⟩
  | ret u =>
    obtain ⟨v, σ', H', J', r, q⟩ := post
    exact ⟨v, σ', H', J'.ofTry okX, r, q⟩
end
end GX

set_option Elab.async false
set_option linter.all false
set_option maxRecDepth 100000
set_option maxHeartbeats 4000000
/-! G14: a lambda handed to a def that catches: what is wished of its errors may look at the caller's names. -/
namespace GX
open PySem PySem.Spec PyProof.Rows L2 LamX
section
variable {X : Cx} {pins : List (Addr × Obj)} {σ : L2.St} {H : Hp} {s : Shared}
/-- the context of a def named x, called from X at s -/
abbrev inDef (X : Cx) (Ng : List Str) (x : Str) (sg : Scope) (g : Addr) (cdg : Value) (s : Shared) (H : Hp) : Cx := cxOf CX0 X.prog X.w X.K X.mg X.base Ng x sg g cdg X.A X.stack s H E0
/-- a() runs the lambda's body as tl tells -/
def ActS (Z : Cx) (f c' : Addr) (a q : Str) (tl : XK → Hp → VK → Prop) (W : WX) : Prop := ∀ p1 p2 : Pos,
  PE Z (.Call (.Name a p1) [] [] p2) (fun σZ HZ Q => σZ[0]? = some (some (.ref f)) ∧ HZ c' = some (CodeO c' q) ∧ tl (WE W σZ) HZ Q)
theorem actS {Ng : List Str} {x a : Str} {sg : Scope} {g f c' : Addr} {cdg pm ctv : Value} {params : Arguments} {body : Expr} {scope : Scope} {k : Nat} {pn : List (Addr × Obj)} {xe : Value → Shared → Prop} {W : WX} {tb : XK → TE}
    (I : Inv X pins σ H s) (L : LamS X.env.scope scope) (hf : s.heap.get? f = some (PySem.W.kla_obj "<lambda>" (X.env.qual ++ "<lambda>") params body scope (cloFrom X.env.cells scope.names []) pm c' ctv)) (hfn : H f = none) (hfr : f ∉ frs X.stack)
    (hbind : bindArgs (PySem.W.kla_fn "<lambda>" (X.env.qual ++ "<lambda>") params body scope (cloFrom X.env.cells scope.names []) pm (.ref c') ctv) ⟨[], []⟩ = pure [])
    (tk : L2.Takes ((inDef X Ng x sg g cdg s H).tr pn xe) W) (hr : Room (k + 1) (X.A.deeper (envOfC x sg s.heap.objs.size g cdg)))
    (hbody : ∀ (A : Around) (outer : List Env) (s : Shared) (H : Hp) (E : XK), Room k (A.deeper (lamEnv X scope s.heap.objs.size f c')) → PE (lamCx X A outer s H E scope f c') body (tb E))
    (hN : Ng[0]? = some a) (hv : Vis sg a) (hd : (a == ("__debug__" : Str)) = false) (hcd : (a == ("__classdict__" : Str)) = false) :
    ActS ((inDef X Ng x sg g cdg s H).tr pn xe) f c' a (X.env.qual ++ "<lambda>") (fun E HZ Q => tb E σ HZ Q) W := by
  refine fun p1 p2 => ⟨fun pinsZ sZ σZ HZ Q IZ ⟨at0, co, ht⟩ => ?_⟩
  have var := (pe_var (X := (inDef X Ng x sg g cdg s H).tr pn xe) (pos := p1) (i := 0) hN hv hd hcd).run pinsZ sZ σZ HZ (fun v H1 => v = .ref f ∧ H1 = HZ) IZ ⟨.ref f, at0, rfl, rfl⟩
  refine wpAny_Call_Name_kw (thn var fun u s1 ⟨v, H1, I1, r1, ev, eH⟩ => ?_)
  subst ev
  subst eH
  obtain rfl : u = Value.ref f := r1
  have fObj := I1.base.keep f _ hf hfn hfr (show f ∉ ([] : List Addr) from List.not_mem_nil)
  obtain ⟨⟨oc, vs, t, c1, c2, c3⟩, _, _⟩ := I1.hok c' _ co
  refine PySem.W.callWith_F0 ⟨_, _, _, _, fObj⟩ (wpAny_call (codeAny_mono (R := CR (L2.CX X.prog X.w) (envOfC x sg s.heap.objs.size g cdg :: X.stack) X.prog X.w H1 s1 Q (WE W σZ)) ?_ fun r s' hq => ?_))
  · show codeAny (model X.prog X.w) (X.A.deeper (envOfC x sg s.heap.objs.size g cdg)) (.call (.ref f) ⟨[], []⟩) _ s1
    refine PySem.W.kla_callFunE hr.depth fObj rfl L.co L.gen rfl ⟨c', oc, vs, t, rfl, c1, c2, c3⟩ ?_
    rw [hbind]
    refine wpAny_pure (wpAny_newFunctionEnv (fun y hy => (L.own y hy).2) (fun y hy => absurd hy List.not_mem_nil) (fun h₁ ns sb => ⟨I1.nolimit.fresh _ sb, ?_⟩) L.kind)
    have kp : ∀ b o, s1.heap.get? b = some o → h₁.get? b = some o := fun b o e => sb.extBut b o (Nat.ne_of_lt (Heap.lt_size e)) (Heap.get?_push_of_some _ e)
    have J := lam_start2 (A := X.A.deeper (envOfC x sg s.heap.objs.size g cdg)) (outer := envOfC x sg s.heap.objs.size g cdg :: X.stack) (E := WE W σZ) (c' := c') (f := f) (tk := s1.toks + ([] : List (Str × Value)).length) I L I1.env0 hr.hd I1.base ns kp
    refine PySem.W.kla_codeExpr (wpAny_mono ((hbody _ _ s1 H1 (WE W σZ) (hr.deeper _)).run [] _ _ H1 Q J ht) (fun v s2 ⟨w', H2, J2, rv, q⟩ => ⟨w', H2, J2.os, J2.bare, J2.base, J2.hok, rv, q⟩) fun e s2 hq => hq)
  · cases r with
    | error e => exact passAt tk σZ pinsZ H1 s1 e s' I1 hq
    | ok fl =>
      cases fl with
      | ret u => exact I1.after hq
      | _ => exact False.elim hq
end
/-- the def that calls what it got -/
def GivesS (X : Cx) (Ng : List Str) (x : Str) (sg : Scope) (g : Addr) (cdg : Value) (bg : List Stmt) (a q : Str) (TT : (XK → Hp → VK → Prop) → Hp → VK → Prop) : Prop :=
  ∀ (f c' : Addr) (s : Shared) (H : Hp) (Q : VK) (tl : XK → Hp → VK → Prop),
    (∀ (W : WX) (pn : List (Addr × Obj)) (xe : Value → Shared → Prop), L2.Takes ((inDef X Ng x sg g cdg s H).tr pn xe) W → ActS ((inDef X Ng x sg g cdg s H).tr pn xe) f c' a q tl W) →
    H c' = some (CodeO c' q) → TT tl H Q → ∃ t, PSs (inDef X Ng x sg g cdg s H).nox bg t ∧ t { nx := fun _ H' => Q .non H', rt := Q } (L2.start Ng [.ref f]) H
section
variable {X : Cx}
/-- x(lambda: body) -/
theorem pe_lamS {T : List (Addr × Str)} {TT : (XK → Hp → VK → Prop) → Hp → VK → Prop} {x a : Str} {g c P : Addr} {k : Nat} {pg : Arguments} {bg : List Stmt} {sg : Scope} {Ng : List Str} {fd : FuncData}
    {params : Arguments} {body : Expr} {scope : Scope} {t : XK → TE} {p lpos pos : Pos} (F : FunD X.K x x pg bg sg [] [] g fd) (hm : X.mg x = some (.ref g)) (hb : L2.Binds X.K fd [a] []) (Sg : FnScope Ng [a] sg) (hNg : Ng[0]? = some a) (hva : Vis sg a)
    (hG : ∀ cdg, GivesS X Ng x sg g cdg bg a (X.env.qual ++ "<lambda>") TT)
    (TB : TabB X.base X.mg c P) (hcode : X.env.code = .ref c) (hmT : (P, X.env.qual ++ "<lambda>") ∈ T) (hu : ∀ p ∈ T, p.1 = P → p.2 = X.env.qual ++ "<lambda>") (hr : Room (k + 2) X.A) (L : LamS X.env.scope scope) (hdef : defaultsOf params X.env = ([], []))
    (hbind : ∀ (q : Str) (cl : List (Str × Addr)) (pm cv ctv : Value), bindArgs (PySem.W.kla_fn "<lambda>" q params body scope cl pm cv ctv) ⟨[], []⟩ = pure [])
    (hbody : ∀ (A : Around) (outer : List Env) (s : Shared) (H : Hp) (E : XK) (f c' : Addr), Room k (A.deeper (lamEnv X scope s.heap.objs.size f c')) → PE (lamCx X A outer s H E scope f c') body (t E))
    (hg : Gl X x := by rfl) (hdb : (x == ("__debug__" : Str)) = false := by decide) (hd : (a == ("__debug__" : Str)) = false := by decide) (hcd : (a == ("__classdict__" : Str)) = false := by decide) :
    PE X (.Call (.Name x p) [.Lambda params body scope lpos] [] pos) (tLam T TT t) := by
  obtain ⟨oc, od, dV, kV, doc, pm0, an, cdv, ct, osl, rfl, lk, hcg, _, _⟩ := F.ex
  refine ⟨fun pins s σ H Q I ⟨tabs, told⟩ => wpAny_Call_Name_kw (ld_glob I hg hm ?_ hdb)⟩
  refine PySem.W.callWith_K (h₀ := X.base) I.ok.mod.kin F.kp ?_ rfl rfl
  show wpAny _ _ (spliced ((false, eval (.Lambda params body scope lpos) X.env) :: backTo pos (starEach [] X.env))) _ _ s
  refine Calls.spliced_cons (lam_make2 I TB hcode hmT hu tabs hdef (L.has I.ok) fun f c' pm' ctv H1 s1 I1 eN T1 hf hfn hfr hco => Calls.spliced_nil ⟨I1.kIn, ?_⟩)
  refine wpAny_call (codeAny_mono (run_ofS (CX := CX0) (E := E0) (Q := Q) (N := Ng) (ps := [a]) (us := [.ref f]) (vs := [.ref f]) lk hcg Sg hr I1.env0 (hb s1 [.ref f] I1.kIn rfl) (.cons rfl .nil) rfl fun hr1 => ?_) fun r s2 hq => ?_)
  · obtain ⟨t', ht', hq'⟩ := hG cdv f c' s1 H1 Q (fun E H' Q' => t E σ H' Q') (fun W pn xe tk => actS I1 L hf hfn hfr (hbind _ _ _ _ _) tk hr1 (fun A outer s H E hr2 => hbody A outer s H E f c' hr2) hNg hva hd hcd) hco (told H1 eN T1)
    exact ⟨t', ht'.nox, hq'⟩
  · cases r with
    | error e => exact (show False from hq).elim
    | ok fl =>
      cases fl with
      | ret u => exact I1.after hq
      | _ => exact False.elim hq
end
end GX

set_option Elab.async false
set_option linter.all false
set_option maxRecDepth 100000
set_option maxHeartbeats 4000000
/-! G15: the end of a law whose defs hold lambdas: their tables of code objects are tracked. -/
namespace GX
open PySem PySem.Spec PyProof.Rows L2 LamX
/-- the script and the tables at a law's start -/
def lawH (K : PySem.W.Frag) (a : Addr) (so : Obj) (xs : List V) (ts : List Addr) : Hp := fun b => if b ∈ ts then some (.tbl #[]) else if b = a ∧ (K.lookup a).isNone = true then some (.frz so (.lst xs)) else none
section
variable {K : PySem.W.Frag} {a b : Addr} {so : Obj} {xs : List V} {ts : List Addr} {u : HO}
theorem lawH_tb (h : b ∈ ts) : lawH K a so xs ts b = some (.tbl #[]) := if_pos h
theorem lawH_of (h : lawH K a so xs ts b = some u) : (b ∈ ts ∧ u = .tbl #[]) ∨ (b = a ∧ (K.lookup a).isNone = true ∧ u = .frz so (.lst xs)) := by
  unfold lawH at h
  by_cases h1 : b ∈ ts
  · rw [if_pos h1] at h
    exact .inl ⟨h1, (Option.some.inj h).symm⟩
  · rw [if_neg h1] at h
    by_cases h2 : b = a ∧ (K.lookup a).isNone = true
    · rw [if_pos h2] at h
      exact .inr ⟨h2.1, h2.2, (Option.some.inj h).symm⟩
    · rw [if_neg h2] at h
      cases h
theorem lawH_no (h1 : b ∉ ts) (h2 : b ≠ a) : lawH K a so xs ts b = none := by
  unfold lawH
  rw [if_neg h1, if_neg fun z => h2 z.1]
end
theorem law_callTG {P : Program} {w : World} {K : PySem.W.Frag} {mg mb : Str → Option Value} {CX : CXT} {k : Nat} {fa a : Addr} {cs : List (Addr × Addr)} {fd : FuncData} {x : Str} {sp : Sp} {s₁ : Shared} {vs : List Value} {ns : List Int}
    (KX : K.In s₁.heap) (hns : s₁.heap.Ns mainGlobals mg) (hb : s₁.heap.Ns builtinsNs mb) (hbb : ∀ x : Str, x ≠ "__name__" → mb x = bootBuiltins x) (hlim : s₁.heap.NoLimit) (hg : s₁.gens = #[])
    (hT : ∀ p ∈ cs, s₁.heap.get? p.2 = some { cls := .none, data := .fields #[] }) (nT : ∀ p ∈ cs, K.lookup p.2 = none) (hC : ∀ p ∈ cs, PySem.W.CodeHd s₁.heap p.1 p.2)
    (hbm : ∃ (bm : Addr) (ob : Obj), mg "__builtins__" = some (.ref bm) ∧ bm ≠ builtinsNs ∧ s₁.heap.get? bm = some ob ∧ ob.cls = .type "module" ∧ ob.dict = some builtinsNs ∧ ob.data = .plain)
    (ha : s₁.heap.get? a = some { cls := .type "list", data := .seq vs.toArray }) (hi : IntsAre vs ns) (hl : ns.length ≤ sizeLine) (hr : Room k callerA)
    (F : ∀ base : Heap, K.In base → base.Ns mainGlobals mg → (∀ p ∈ cs, TabB base mg p.1 p.2) → FnG P w K mg base CX k fa fd [x] sp) (hbind : ∀ (s : Shared) (u : Value), BindsTo s fd ⟨[u], []⟩ [(x, u)])
    (hsp : ∀ H : Hp, (∀ p ∈ cs, H p.2 = some (.tbl #[])) → SqL K H a (ns.map V.int) → sp [.ref a] H (fun v _ => v = .bl true) fun _ _ _ => False)
    (hCX : ∀ H e s', CX [] H s₁ (fun _ _ _ => False) e s' → False) :
    codeAny (model P w) callerA (.call (.ref fa) ⟨[.ref a], []⟩) (fun r s' => r = .ok (.ret (.bool true)) ∧ OldK s₁.heap s'.heap ∧ s'.os = s₁.os ∧ AllBare s'.gens) s₁ := by
  have rv := vals_ints hi
  let so : Obj := { cls := .type "list", data := .seq vs.toArray }
  let ts := cs.map (·.2)
  let H := lawH K a so (ns.map V.int) ts
  have tabAt : ∀ b ∈ ts, s₁.heap.get? b = some { cls := .none, data := .fields #[] } := fun b h => by
    obtain ⟨p, hp, rfl⟩ := List.mem_map.mp h
    exact hT p hp
  have aT : a ∉ ts := fun z => by
    have q := tabAt a z
    rw [ha] at q
    have q2 : Data.seq vs.toArray _ = Data.fields #[] := congrArg Obj.data (Option.some.inj q)
    cases q2
  have hA : (K.lookup a).isNone = true → H a = some (.frz so (.lst (ns.map V.int))) := fun h => by
    show (if a ∈ ts then _ else if a = a ∧ (K.lookup a).isNone = true then _ else _) = _
    rw [if_neg aT, if_pos ⟨rfl, h⟩]
  have hS : SqL K H a (ns.map V.int) := by
    cases q : K.lookup a with
    | none => exact .inl (.inr ⟨so, hA (by rw [q]; rfl)⟩)
    | some o =>
      have e := KX a o q
      rw [ha] at e
      cases e
      refine .inr ⟨_, vs.toArray, _, q, rfl, rfl, rfl, ?_, by simpa using rv⟩
      rw [List.size_toArray, hi.length]
      exact hl
  have ok : HOk P w H s₁.heap := fun b u e => by
    rcases lawH_of e with ⟨h1, rfl⟩ | ⟨rfl, _, rfl⟩
    · exact tabAt b h1
    · exact ⟨ha, by rw [List.length_map]; exact hl, vs, _, rv, ha⟩
  -- what stays in the base
  have stay : ∀ {b : Addr} {o : Obj}, s₁.heap.get? b = some o → (∀ ws n, o.data ≠ .seq ws n) → o.data ≠ .fields #[] → (hidT s₁.heap H).get? b = some o := fun {b o} e h1 h2 => hidT_get e (by
    cases q : H b with
    | none => rfl
    | some u =>
      rcases lawH_of q with ⟨q1, _⟩ | ⟨rfl, _, _⟩
      · rw [tabAt b q1] at e
        cases e
        exact (h2 rfl).elim
      · rw [ha] at e
        cases e
        exact (h1 _ _ rfl).elim)
  have ns' : ∀ {b : Addr} {m : Str → Option Value}, s₁.heap.Ns b m → (hidT s₁.heap H).Ns b m := fun {b m} ⟨o, es, ep, e, d, r⟩ =>
    ⟨o, es, ep, stay e (fun _ _ z => by rw [d] at z; cases z) (fun z => by rw [d] at z; cases z), d, r⟩
  have hKb : K.In (hidT s₁.heap H) := fun b o e => by
    refine hidT_get (KX b o e) ?_
    cases q : H b with
    | none => rfl
    | some u =>
      rcases lawH_of q with ⟨q1, _⟩ | ⟨rfl, q1, _⟩
      · obtain ⟨p, hp, rfl⟩ := List.mem_map.mp q1
        rw [nT p hp] at e
        cases e
      · rw [e] at q1
        cases q1
  have tabs : ∀ p ∈ cs, TabB (hidT s₁.heap H) mg p.1 p.2 := fun p hp => by
    refine ⟨?_, ?_, fun z => ?_⟩
    · obtain ⟨o, us, f1, f2, f3, f4, f5, f6, f7, e1, r1, r2, r3, r⟩ := hC p hp
      refine ⟨o, us, f1, f2, f3, f4, f5, f6, f7, stay e1 (fun _ _ z => by rw [r2] at z; cases z) (fun z => ?_), r1, r2, r3, r⟩
      rw [r2] at z
      cases z
      simp at r3
    · obtain ⟨bm, ob, b1, b2, b3, b4, b5, b6⟩ := hbm
      refine ⟨bm, ob, b1, b2, fun z => ?_, fun z => ?_, stay b3 (fun _ _ z => by rw [b6] at z; cases z) (fun z => by rw [b6] at z; cases z), b4, b5, b6⟩
      · obtain ⟨o, es, ep, e, d, _⟩ := hns
        rw [z, e] at b3
        cases b3
        rw [d] at b6
        cases b6
      · rw [z, hT p hp] at b3
        cases b3
        cases b6
    · obtain ⟨o, es, ep, e, d, _⟩ := hns
      rw [z, hT p hp] at e
      cases e
      cases d
  have e0 : Env0 P w K mg (hidT s₁.heap H) callerA [] s₁ H := ⟨rfl, ⟨hKb, ns' hns, ⟨mb, ns' hb, hbb⟩, let ⟨mc, h1, h2⟩ := hlim; ⟨mc, ns' h1, h2⟩⟩, fun b o e => of_hidT e, Nat.le_of_eq (hidT_size _ _), trivial,
    fun b z => absurd (show b ∈ ([] : List Addr) from z) List.not_mem_nil, ok, .of_eq hg⟩
  have start := hsp H (fun p hp => lawH_tb (List.mem_map.mpr ⟨p, hp, rfl⟩)) hS
  refine codeAny_mono ((F _ hKb (ns' hns) tabs).run callerA [] s₁ H ⟨[.ref a], []⟩ [.ref a] [.ref a] _ _ (.caller hr) e0 (hbind s₁ (.ref a)) (.cons rfl .nil) start) fun r s' h => ?_
  cases r with
  | error e => exact (hCX H e s' h).elim
  | ok fl =>
    cases fl with
    | ret u =>
      obtain ⟨v, H', os, bare, un, ok', r', q⟩ := h
      have q' : v = .bl true := q
      subst q'
      obtain rfl : u = Value.bool true := r'
      have grown : ∀ b ∈ ts, ∃ more : Array Value, s'.heap.get? b = some { cls := .none, data := .fields more } := fun b hb2 => by
        obtain ⟨more, z⟩ := un.tbls b #[] (lawH_tb hb2)
        exact ⟨_, ok' b _ z⟩
      have kept : ∀ b o, b ∉ ts → s₁.heap.get? b = some o → s'.heap.get? b = some o := fun b o nb e => by
        cases q : H b with
        | none => exact un.keep b o e q (show b ∉ frs [] from List.not_mem_nil) List.not_mem_nil
        | some u =>
          rcases lawH_of q with ⟨q1, _⟩ | ⟨rfl, _, rfl⟩
          · exact absurd q1 nb
          · obtain ⟨e1, _⟩ := ok b _ q
            obtain ⟨e2, _⟩ := ok' b _ (un.frzs b so _ q)
            rw [e] at e1
            cases e1
            exact e2
      refine ⟨rfl, ⟨fun b o e => ?_, fun b o e => ?_⟩, os, bare⟩
      · by_cases hb2 : b ∈ ts
        · obtain ⟨p, hp, rfl⟩ := List.mem_map.mp hb2
          obtain ⟨more, hm⟩ := grown p.2 hb2
          rw [hT p hp] at e
          cases e
          exact .inr (.inl ⟨((hC p hp).tab (hT p hp)).isCodeTable, rfl, #[], more, rfl, by rw [Array.empty_append]; exact hm⟩)
        · exact .inl (kept b o hb2 e)
      · by_cases hb2 : b ∈ ts
        · obtain ⟨more, hm⟩ := grown b hb2
          exact ⟨_, hm⟩
        · exact ⟨o, kept b o hb2 e⟩
    | _ => exact False.elim h
/-- a law with tables: the written part, the function object, the tables, the promise over every base -/
theorem walkGT {l : PySem.W.OpenLaw} {n k : Nat} {q : Program} {loose : List Str} {XP : (Str → Option Value) → Heap → Prop} {YP : World → Heap → Prop} {d : DefRec} {CX : CXT} {x : Str}
    (hn : l.most = some n) (hn2 : n ≤ sizeLine) (hdf : d.params.defaults = []) (hr : Room k callerA)
    (F : ∀ (w : World) (mg : Str → Option Value) (fa : Addr) (h : Heap), YP w h → h.Ns mainGlobals mg → mg d.name = some (.ref fa) →
      ∃ (K : PySem.W.Frag) (fd : FuncData) (cs : List (Addr × Addr)) (sp : Sp), K.In h ∧ (∀ p ∈ cs, h.get? p.2 = some { cls := .none, data := .fields #[] }) ∧ (∀ p ∈ cs, K.lookup p.2 = none) ∧ (∀ p ∈ cs, PySem.W.CodeHd h p.1 p.2) ∧
        (∀ (s : Shared) (u : Value), BindsTo s fd ⟨[u], []⟩ [(x, u)]) ∧
        (∀ (H : Hp) (a : Addr) (ns : List Int), ns.length ≤ n → (∀ p ∈ cs, H p.2 = some (.tbl #[])) → SqL K H a (ns.map V.int) → sp [.ref a] H (fun v _ => v = .bl true) fun _ _ _ => False) ∧
        ∀ base : Heap, K.In base → base.Ns mainGlobals mg → (∀ p ∈ cs, TabB base mg p.1 p.2) → FnG l.prog w K mg base CX k fa fd [x] sp)
    (hCX : ∀ (H : Hp) (s : Shared) (e : Value) (s' : Shared), CX [] H s (fun _ _ _ => False) e s' → False) :
    PySem.W.WalkO q loose XP YP l.row.toRowW d [] (fun f vs => PySem.call f vs) := by
  refine Att.attach_call hn hdf fun w s₀ s₁ mg mb fa o pm cd doc a vs ns G Y ho hd hcd hmg hobj hints hlen hg => ?_
  obtain ⟨K, fd, cs, sp, KX, hT, nT, hC, hb, hsp, hF⟩ := F w mg fa _ Y G.T.g hmg
  exact law_callTG KX G.T.g G.T.b G.T.builtins G.T.nolimit hg hT nT hC G.T.bmain hobj hints (Nat.le_trans hlen hn2) hr hF hb (fun H h1 hS => hsp H a ns hlen h1 hS) fun H e s' => hCX H s₁ e s'
end GX

set_option Elab.async false
set_option linter.all false
set_option maxRecDepth 100000
set_option maxHeartbeats 4000000
/-! G16: a head's Hook that knows the tables of code objects of some defs; the tables stand outside the written part. -/
namespace GX
open PySem PySem.Spec PyProof.Rows L2 LamX
/-! ### a def's code object, its table -/
def codeOf (K : PySem.W.Frag) (f : Addr) : Addr := match K.lookup f with
  | some ⟨_, _, .func fd, _⟩ => (match fd.code with
    | .ref c => c
    | _ => 0)
  | _ => 0
def tabOf (K : PySem.W.Frag) (c : Addr) : Addr := match K.lookup c with
  | some ⟨_, _, .fields vs, _⟩ => (match vs.getD 11 .none with
    | .ref P => P
    | _ => 0)
  | _ => 0
def isStrV : Value → Bool
  | .str _ _ => true
  | _ => false
def isIntV : Value → Bool
  | .int _ _ => true
  | _ => false
def isBoolV : Value → Bool
  | .bool _ => true
  | _ => false
def cdB (K : PySem.W.Frag) (c P : Addr) : Bool := match K.lookup c with
  | some ⟨cl, _, .fields vs, _⟩ => decide (cl = .type "code") && (decide (vs[11]? = some (.ref P)) && (isStrV (vs.getD 18 .none) && (isIntV (vs.getD 7 .none) && (isBoolV (vs.getD 9 .none) && (isIntV (vs.getD 10 .none) && decide (c ≠ P))))))
  | _ => false
def tbB (K : PySem.W.Frag) (P : Addr) : Bool := match K.lookup P with
  | some ⟨.none, none, .fields vs, sl⟩ => decide (vs.size = 0) && decide (sl.size = 0)
  | _ => false
/-- the def at f: its code object and that one's table, still empty -/
def lamB (K : PySem.W.Frag) (f : Addr) : Bool := (match K.lookup f with
  | some ⟨_, _, .func fd, _⟩ => decide (fd.code = .ref (codeOf K f))
  | _ => false) && (cdB K (codeOf K f) (tabOf K (codeOf K f)) && tbB K (tabOf K (codeOf K f)))
section
variable {K : PySem.W.Frag} {h : Heap} {c P f : Addr}
theorem getD_of {vs : Array Value} {i : Nat} {v : Value} (e : vs[i]? = some v) : vs.getD i .none = v := by
  rw [Array.getD_eq_getD_getElem?, e]
  rfl
theorem cd_ok (X : K.In h) (b : cdB K c P = true) : PySem.W.CodeHd h c P := by
  unfold cdB at b
  split at b
  · rename_i cl dd vs sl e
    obtain ⟨h1, b⟩ := He.ba b
    obtain ⟨h2, b⟩ := He.ba b
    obtain ⟨h3, b⟩ := He.ba b
    obtain ⟨h4, b⟩ := He.ba b
    obtain ⟨h5, b⟩ := He.ba b
    obtain ⟨h6, h7⟩ := He.ba b
    have e1 := of_decide_eq_true h1
    have e2 := of_decide_eq_true h2
    have e7 := of_decide_eq_true h7
    have o1 : ∀ v : Value, isStrV v = true → ∃ a t, v = .str a t := fun v z => by cases v <;> first | exact ⟨_, _, rfl⟩ | cases z
    have o2 : ∀ v : Value, isIntV v = true → ∃ a t, v = .int a t := fun v z => by cases v <;> first | exact ⟨_, _, rfl⟩ | cases z
    have o3 : ∀ v : Value, isBoolV v = true → ∃ a, v = .bool a := fun v z => by cases v <;> first | exact ⟨_, rfl⟩ | cases z
    obtain ⟨file, tf, q3⟩ := o1 _ h3
    obtain ⟨flags, tg, q4⟩ := o2 _ h4
    obtain ⟨inF, q5⟩ := o3 _ h5
    obtain ⟨text, tt, q6⟩ := o2 _ h6
    exact ⟨_, vs, file, tf, flags, tg, inF, text, tt, X _ _ e, e1, rfl, e2, getD_of e2, q3, q4, q5, q6, e7⟩
  · cases b
theorem tb_ok (X : K.In h) (b : tbB K P = true) : h.get? P = some { cls := .none, data := .fields #[] } := by
  unfold tbB at b
  split at b
  · rename_i vs sl e
    obtain ⟨h1, h2⟩ := He.ba b
    have e1 : vs = #[] := Array.eq_empty_of_size_eq_zero (of_decide_eq_true h1)
    have e2 : sl = #[] := Array.eq_empty_of_size_eq_zero (of_decide_eq_true h2)
    subst e1 e2
    exact X _ _ e
  · cases b
theorem lam_ok (X : K.In h) (b : lamB K f = true) : PySem.W.CodeHd h (codeOf K f) (tabOf K (codeOf K f)) ∧ h.get? (tabOf K (codeOf K f)) = some { cls := .none, data := .fields #[] } := by
  obtain ⟨_, b2⟩ := He.ba b
  obtain ⟨h1, h2⟩ := He.ba b2
  exact ⟨cd_ok X h1, tb_ok X h2⟩
end
/-! ### the written part without the tables -/
def offT (K : PySem.W.Frag) (ts : List Addr) : PySem.W.Frag := K.filter fun q => !ts.contains q.1
theorem offT_some {ts : List Addr} {a : Addr} {o : Obj} : ∀ {K : PySem.W.Frag}, (offT K ts).lookup a = some o → K.lookup a = some o ∧ a ∉ ts
  | [], e => by cases e
  | (b, ob) :: r, e => by
    unfold offT at e
    rw [List.filter_cons] at e
    by_cases hb : (!ts.contains b) = true
    · rw [if_pos hb] at e
      by_cases hab : a = b
      · subst hab
        have e2 : some ob = some o := by simpa [List.lookup] using e
        refine ⟨by simpa [List.lookup] using e2, fun z => ?_⟩
        simp [z] at hb
      · have e2 : (offT r ts).lookup a = some o := by
          have n : (a == b) = false := by simpa using hab
          simpa [List.lookup, n, offT] using e
        obtain ⟨h1, h2⟩ := offT_some e2
        have n : (a == b) = false := by simpa using hab
        exact ⟨by simp [List.lookup, n, h1], h2⟩
    · rw [if_neg hb] at e
      obtain ⟨h1, h2⟩ := offT_some (K := r) (show (offT r ts).lookup a = some o from e)
      have n : (a == b) = false := by
        have m : b ∈ ts := by simpa using hb
        simpa using fun z : a = b => h2 (by rw [z]; exact m)
      exact ⟨by simp [List.lookup, n, h1], h2⟩
theorem offT_in {K : PySem.W.Frag} {ts : List Addr} {h : Heap} (X : K.In h) : (offT K ts).In h := fun a o e => X a o (offT_some e).1
theorem offT_none {K : PySem.W.Frag} {ts : List Addr} {a : Addr} (m : a ∈ ts) : (offT K ts).lookup a = none := by
  cases e : (offT K ts).lookup a with
  | none => rfl
  | some o => exact absurd m (offT_some e).2
/-! ### the Hook -/
def lamsOf (K : PySem.W.Frag) (ld : List (Str × Option Str)) : List (Addr × Addr) := ld.map fun p => (codeOf K (He.fAd K p), tabOf K (codeOf K (He.fAd K p)))
def kOff (K : PySem.W.Frag) (ld : List (Str × Option Str)) : PySem.W.Frag := offT K ((lamsOf K ld).map (·.2))
def obsT (xb : PySem.W.Frag → Bool) (fa : List He.Fa) (fn : List He.DefD) (ld : List (Str × Option Str)) (K : PySem.W.Frag) : He.AlD × Bool := (obsX xb fa fn (kOff K ld), ld.all fun p => lamB K (He.fAd K p) && decide (codeOf (kOff K ld) (He.fAd (kOff K ld) p) = codeOf K (He.fAd K p)))
def SaysT (xb : PySem.W.Frag → Bool) (fa : List He.Fa) (fn : List He.DefD) (ld : List (Str × Option Str)) (K : PySem.W.Frag) : Prop := obsT xb fa fn ld K = (He.valD fn, true)
def obsTG (n : Nat) (xb : PySem.W.Frag → Bool) (fa : List He.Fa) (fn : List He.DefD) (ld : List (Str × Option Str)) (g : Addr → Option Obj) : He.AlD × Bool := obsT xb fa fn ld (He.frG g (He.asD g n ++ [sysModules]))
def hookT (n : Nat) (xb : PySem.W.Frag → Bool) (fa : List He.Fa) (fn : List He.DefD) (ld : List (Str × Option Str)) : PySem.W.Hook where
  α := He.AlD × Bool
  obs := fun s => obsTG n xb fa fn ld s.heap.get?
  val := fun _ => (He.valD fn, true)
  says := fun _ h => ∃ K : PySem.W.Frag, K.In h ∧ SaysT xb fa fn ld K
  of := fun _ _ e => ⟨_, He.frG_in, e⟩
  keeps := fun _ _ _ ⟨K, hK, c⟩ k => ⟨K, PySem.W.Frag.In.keeps hK k, c⟩
theorem obsTG_eq {n : Nat} {xb : PySem.W.Frag → Bool} {fa : List He.Fa} {fn : List He.DefD} {ld : List (Str × Option Str)} {g : Addr → Option Obj} {s : Shared} (h : ∀ a, g a = s.heap.get? a) : obsTG n xb fa fn ld g = (hookT n xb fa fn ld).obs s := by
  rw [show g = s.heap.get? from funext h]
  rfl
/-- what it says: the written part K without the tables, the facts, the tables -/
theorem SaysT.all {xb : PySem.W.Frag → Bool} {fa : List He.Fa} {fn : List He.DefD} {ld : List (Str × Option Str)} {K : PySem.W.Frag} {h : Heap} (X : K.In h) (c : SaysT xb fa fn ld K) :
    (kOff K ld).In h ∧ SaysX xb fa fn (kOff K ld) ∧ (∀ p ∈ lamsOf K ld, h.get? p.2 = some { cls := .none, data := .fields #[] }) ∧ (∀ p ∈ lamsOf K ld, (kOff K ld).lookup p.2 = none) ∧ (∀ p ∈ lamsOf K ld, PySem.W.CodeHd h p.1 p.2) ∧
      ∀ p ∈ ld, (codeOf (kOff K ld) (He.fAd (kOff K ld) p), tabOf K (codeOf K (He.fAd K p))) ∈ lamsOf K ld ∧ codeOf (kOff K ld) (He.fAd (kOff K ld) p) = codeOf K (He.fAd K p) := by
  have c1 : SaysX xb fa fn (kOff K ld) := congrArg (fun z : He.AlD × Bool => z.1) c
  have c2 : (ld.all fun p => lamB K (He.fAd K p) && decide (codeOf (kOff K ld) (He.fAd (kOff K ld) p) = codeOf K (He.fAd K p))) = true := congrArg (fun z : He.AlD × Bool => z.2) c
  have each : ∀ p ∈ ld, lamB K (He.fAd K p) = true ∧ codeOf (kOff K ld) (He.fAd (kOff K ld) p) = codeOf K (He.fAd K p) := fun p hp => by
    obtain ⟨h1, h2⟩ := He.ba (List.all_eq_true.mp c2 p hp)
    exact ⟨h1, of_decide_eq_true h2⟩
  refine ⟨offT_in X, c1, fun p hp => ?_, fun p hp => offT_none (List.mem_map.mpr ⟨p, hp, rfl⟩), fun p hp => ?_, fun p hp => ⟨?_, (each p hp).2⟩⟩
  · obtain ⟨q, hq, rfl⟩ := List.mem_map.mp hp
    exact (lam_ok X (each q hq).1).2
  · obtain ⟨q, hq, rfl⟩ := List.mem_map.mp hp
    exact (lam_ok X (each q hq).1).1
  · rw [(each p hp).2]
    exact List.mem_map.mpr ⟨p, hp, rfl⟩
end GX

set_option Elab.async false
set_option linter.all false
set_option maxRecDepth 100000
set_option maxHeartbeats 4000000
/-! G17: the program's own defs (whatever guards stand): bundles, calls, errors raised. -/
namespace GX
open PySem PySem.Spec PyProof.Rows L2 LamX
theorem _root_.L2.Room.u64 {k : Nat} {A : Around} (r : Room k A) : A.units + 64 < cLine := by have := r.un; omega
theorem _root_.L2.Room.u1 {k : Nat} {A : Around} (r : Room k A) : A.units + 1 < cLine := by have := r.un; omega
theorem fnO0 {P : Program} {w : World} {K : PySem.W.Frag} {mg : Str → Option Value} {base : Heap} {x qual : Str} {params : Arguments} {body : List Stmt} {scope : Scope} {dvs : List V} {kws : List (Str × V)} {f : Addr} {fd : FuncData} {N ps : List Str} {k : Nat} {sp : Sp}
    (F : FunD K x qual params body scope dvs kws f fd) (S : FnScope N ps scope) (len : ∀ vs H Q E, sp vs H Q E → vs.length = ps.length)
    (hbody : ∀ (cdv : Value) (A : Around) (outer : List Env) (s : Shared) (H : Hp) (vs : List V) (Q : VK) (E : XK), Room k (A.deeper (envOfC qual scope s.heap.objs.size f cdv)) → sp vs H Q E →
      ∃ t, PSs (cxOf CX0 P w K mg base N qual scope f cdv A outer s H E).nox body t ∧ t { nx := fun _ H' => Q .non H', rt := Q } (start N vs) H) : FnOk P w K mg base CX0 (k + 1) f fd ps sp :=
  F.ok S len fun cdv A outer s H vs Q E hr h => let ⟨t, h1, h2⟩ := hbody cdv A outer s H vs Q E hr h; ⟨t, h1.nox, h2⟩
/-- an int of the module's -/
theorem pe_gint {X : Cx} {x : Str} {i : Int} {t : Tok} {pos : Pos} (hm : X.mg x = some (.int i t)) (hg : Gl X x := by rfl) (hd : (x == ("__debug__" : Str)) = false := by decide) : PE X (.Name x pos) (tC (.int i)) :=
  pe_glob hg hm ⟨_, rfl⟩ hd
/-- a def of the program that a caller may use -/
structure CalO (P : Program) (w : World) (K : PySem.W.Frag) (mg : Str → Option Value) (base : Heap) (CX : CXT) (k : Nat) (x : Str) (sp : Sp) : Prop where
  ex : ∃ (f : Addr) (fd : FuncData) (ps : List Str), FnOk P w K mg base CX k f fd ps sp ∧ mg x = some (.ref f) ∧ PySem.W.keepIn K (.ref f) = true ∧ Binds K fd ps []
theorem CalO.g {P : Program} {w : World} {K : PySem.W.Frag} {mg : Str → Option Value} {base : Heap} {CX : CXT} {k : Nat} {x : Str} {sp : Sp} (c : CalO P w K mg base CX k x sp) : CalG P w K mg base CX k x sp := by
  obtain ⟨f, fd, ps, F, h⟩ := c.ex
  exact ⟨f, fd, ps, ⟨F.len, fun A outer s H args us vs Q E hr => F.run A outer s H args us vs Q E hr.rm⟩, h⟩
section
variable {X : Cx} {CX : CXT} {j k : Nat} {sp : Sp} {E : XK} {x : Str} {p pos : Pos} {e : Expr} {es : List Expr} {t : TA}
theorem pe_cO (c : CalO X.prog X.w X.K X.mg X.base CX k x sp) (hr : Room j X.A) (hk : k ≤ j) (hx : Passes CX X E) (ha : PA X (e :: es) t) (hg : Gl X x := by rfl)
    (hdb : (x == ("__debug__" : Str)) = false := by decide) (he : starEach (e :: es) X.env = (false, eval e X.env) :: starEach es X.env := by rfl) (hpl : (backTo pos (starEach es X.env)).any (·.1) = false := by rfl) :
    PE X (.Call (.Name x p) (e :: es) [] pos) (tCall sp [] E t) := by
  obtain ⟨f, fd, ps, F, hm, kp, hb⟩ := c.ex
  exact pe_call F (hr.mono hk) hg hm kp hb .nil hx ha hdb he hpl
end
end GX

set_option Elab.async false
set_option linter.all false
set_option maxRecDepth 100000
set_option maxHeartbeats 4000000
/-! G18: name = {..} on one line. -/
namespace GX
open PySem PySem.Spec PyProof.Rows L2
section
variable {X : Cx}
theorem swD_true {ke ve : Expr} {gs : List Comprehension} {scope : Scope} {pos py : Pos} {y : Str} {l : Nat} {env : Env} (h1 : env.scope.kind = .function) (h2 : env.scope.names.lookup y = some .local) (h3 : (py.line == pos.line) = true)
    (h4 : (scope.names.any fun (n, k) => n == y && (k == .local || k == .cell)) = false) : swapsWith (.DictComp ke ve gs scope pos) (some (.Name y py)) l env = pure true := by
  have kk : env.kindOf y = some .local := h2
  have bk : env.blockKind = .function := by
    unfold Env.blockKind
    rw [h1]
    rfl
  unfold swapsWith
  simp only [bk, kk, h4, Expr.pos, h3] <;> rfl
theorem ps_setDc {i : Nat} {y : Str} {py : Pos} {ke ve tg iter : Expr} {ifs : List Expr} {scope : Scope} {own : List (Str × Nat)} {pos spos : Pos} {wi : TI} {g : TG} {tt : TT} {tk tv : TE} (hc : X.calm = true) (hN : X.N.Nodup) (hy : X.N[i]? = some y) (hl : X.env.scope.names.lookup y = some .local)
    (hw : swapsWith (.DictComp ke ve [⟨tg, iter, ifs, 0⟩] scope pos) (some (.Name y py)) spos.line X.env = pure true) (hi : PI X tg iter wi) (ok : BlkOk X.N X.env.scope scope own)
    (hg : ∀ (s : Shared) (H : Hp) (C : Addr) (cl : List (Str × Addr)) (fp : List Addr), PG (X.blk s H scope (compEnvC scope cl C X.env) fp) tg g) (ht : ∀ (s : Shared) (H : Hp) (C : Addr) (cl : List (Str × Addr)) (fp : List Addr), PTs (X.blk s H scope (compEnvC scope cl C X.env) fp) ifs tt)
    (hk : ∀ (s : Shared) (H : Hp) (C : Addr) (cl : List (Str × Addr)) (fp : List Addr), PE (X.blk s H scope (compEnvC scope cl C X.env) fp) ke tk) (hv : ∀ (s : Shared) (H : Hp) (C : Addr) (cl : List (Str × Addr)) (fp : List Addr), PE (X.blk s H scope (compEnvC scope cl C X.env) fp) ve tv)
    (hs : ∀ x, foldedSetIterable iter X.env x = pure x := by intro _; rfl) :
    PS X (.Assign [.Name y py] (.DictComp ke ve [⟨tg, iter, ifs, 0⟩] scope pos) spos) (tAsg (tDc wi g tt tk tv (own.map (·.2))) (gName i)) := by
  refine ⟨fun pins s σ H D I h => ?_⟩
  have h1 : tDc wi g tt tk tv (own.map (·.2)) σ H (fun v H1 => gName i v σ H1 D.nx) := h
  rw [exec_Assign_Name_used _ _ _ _ hw]
  refine wpAny_bind (wpAny_standAt (wpAny_bind ?_))
  show wpAny _ X.A (do let _ ← comprehension (.DictComp ke ve [⟨tg, iter, ifs, 0⟩] scope pos) scope X.env (firstIterPos [⟨tg, iter, ifs, 0⟩] pos) newDict false (eval iter X.env) (some (assign (.Name y py) X.env))) _ _ s
  refine wpAny_bind (thn (dc_core (Qf := fun _ s' => SP X pins D .next s') hc hN I hi ok hg ht hk hv hs h1 fun L C s' m H' J q ns fp => ?_) fun _ s' z => wpAny_pure (wpAny_pure z))
  obtain ⟨p0, p1, p2, p3, p4, p5⟩ := fp
  show wpAny _ _ (assign (.Name y py) X.env (.ref L)) _ _ _
  refine wpAny_assign_Name (store_ok2 (v := V.ref L) J hN hy (.inl hl) rfl (fun s2 J2 ⟨b, same, where_⟩ => ⟨m, ns.sameBut same (fun z => ?_), fun h3 same3 => ⟨_, H', J2.turned (t' := s2.toks) (fun c o n e => (same3.2 c n).trans e) p0 p1 p3 p4 p5, q⟩⟩) (.inr hl))
  rcases where_ with w | w
  · exact p1 (z.trans w)
  · exact p4 y b w z.symm
end
end GX

set_option Elab.async false
set_option linter.all false
set_option maxRecDepth 100000
set_option maxHeartbeats 4000000
/-! G19: raise C(v) in the program's defs, C a class of errors that keep their value. -/
namespace GX
open PySem PySem.Spec PyProof.Rows L2
/-- the errors' common __init__, whatever guards stand -/
structure IO (P : Program) (w : World) (K : PySem.W.Frag) (mg : Str → Option Value) (base : Heap) (fI : Addr) : Prop where
  ex : ∃ (fd : FuncData) (ps : List Str), FnOk P w K mg base CX0 1 fI fd ps (spInit K) ∧ Binds K fd ps []
def tRs (K : PySem.W.Frag) (C : Addr) (W : WX) (ta : TA) : TS := fun _ σ H => tMkO C (spInit K) [] ta σ H fun cls d H' => W cls d σ H'
section
variable {X : Cx} {fI C : Addr} {x : Str} {p p2 pos : Pos} {e : Expr} {ta : TA} {k : Nat} {W : WX}
theorem ps_rs (h : EC X.K X.mg fI x C) (i : IO X.prog X.w X.K X.mg X.base fI) (hr : Room k X.A) (hk : 2 ≤ k) (tk : L2.Takes X W) (ha : PA X [e] ta) (hg : Gl X x := by rfl) (hc : X.calm = true := by rfl)
    (hdb : (x == ("__debug__" : Str)) = false := by decide) (he : starEach [e] X.env = (false, eval e X.env) :: starEach [] X.env := by rfl) (hpl : (backTo p2 (starEach [] X.env)).any (·.1) = false := by rfl) :
    PS X (.Raise (some (.Call (.Name x p) [e] [] p2)) none pos) (tRs X.K C W ta) := by
  obtain ⟨fd, ps, F, hb⟩ := i.ex
  exact L2.ps_raise hc tk (pmk_oex h.f.ox h.f.iC h.f.tI F (hr.mono hk) hb .nil pass0 hg h.hm ha hdb he hpl)
end
theorem rs_read {K : PySem.W.Frag} {C fI : Addr} {σ : L2.St} {H : Hp} {i : Nat} {v : V} {Q : XK} (h : ExcF K C fI) (hs : σ[i]? = some (some v)) (k : ∀ d H', Same H H' → H d = none → H' d = some (.xd [("value", v)]) → Q (.ref C) (some d) H') :
    tMkO C (spInit K) [] (tCons (tVar i) tNil) σ H Q := by
  refine ⟨v, hs, by show 1 ≤ 1000; decide, fun a fa => ⟨a, C, v, rfl, h.ox, h.noV, upd_same, fun dx fd nd => ⟨rfl, dx, [("value", v)], upd_same, by rw [upd_ne nd, upd_same], ?_, ?_⟩⟩⟩
  · rw [upd_ne nd] at fd
    exact fd
  · rw [upd_ne nd] at fd
    refine k dx _ (fun b u e => ?_) fd upd_same
    have n1 := ne_of_none e fa
    have n2 := ne_of_none e fd
    rw [upd_ne n2]
    show (if b = a then none else _) = _
    rw [if_neg n1, upd_ne n1, upd_ne n2, upd_ne n1]
    exact e
end GX

set_option Elab.async false
set_option linter.all false
set_option maxRecDepth 100000
set_option maxHeartbeats 4000000
/-! D0: data (objects and errors among it) as it lies for good; a def's frame as a list of slots; mirrors as programs over slots; what a reading tells of a mirror. -/
namespace DL
open PySem PySem.Spec PyProof.Rows L2 GX

inductive Dat where
  | non | bl (b : Bool) | int (i : Int) | str (x : Str)
  | lst (xs : List Dat) | tup (s : Bool) (xs : List Dat) | dic (kvs : List (Key × Dat))
  | obj (c : Str) (fs : List (Str × Dat)) | exc (c : Str) (fs : List (Str × Dat))
  deriving Inhabited
/-- the written part, the names at the top, how many attributes a whole object of a class has -/
structure Wd where
  K : PySem.W.Frag
  mg : Str → Option Value
  at_ : Addr → Nat
/-- a tuple without a dict of its own -/
def SqS (K : PySem.W.Frag) (H : Hp) (a : Addr) : Prop := (∃ o xs, H a = some (.frz o (.tup xs)) ∧ o.dict = none) ∨ ∃ o, K.lookup a = some o ∧ o.dict = none
mutual
inductive DD (W : Wd) (H : Hp) : V → Dat → Prop
  | non : DD W H .non .non
  | bl (b : Bool) : DD W H (.bl b) (.bl b)
  | int (i : Int) : DD W H (.int i) (.int i)
  | str (x : Str) : DD W H (.str x) (.str x)
  | lst {a : Addr} {o : Obj} {xs : List V} {ds : List Dat} : H a = some (.frz o (.lst xs)) → DDs W H xs ds → DD W H (.ref a) (.lst ds)
  | tup {a : Addr} {s : Bool} {xs : List V} {ds : List Dat} : SqT W.K H a xs → (s = true → SqS W.K H a) → DDs W H xs ds → DD W H (.ref a) (.tup s ds)
  | dic {a : Addr} {o : Obj} {kvs : List (Key × V)} {ds : List (Key × Dat)} : H a = some (.frz o (.dK kvs)) → DDk W H kvs ds → DD W H (.ref a) (.dic ds)
  | obj {a C dx : Addr} {fs : List (Str × V)} {gs : List (Str × Dat)} {c : Str} : W.mg c = some (.ref C) → H a = some (.ins C dx fs) → W.at_ C ≤ fs.length → DDf W H fs gs → DD W H (.ref a) (.obj c gs)
  | exc {e C : Addr} {fs : List (Str × V)} {gs : List (Str × Dat)} {c : Str} : W.mg c = some (.ref C) → ExAt H e C fs → DDf W H fs gs → DD W H (.ref e) (.exc c gs)
inductive DDs (W : Wd) (H : Hp) : List V → List Dat → Prop
  | nil : DDs W H [] []
  | cons {v : V} {vs : List V} {d : Dat} {ds : List Dat} : DD W H v d → DDs W H vs ds → DDs W H (v :: vs) (d :: ds)
inductive DDk (W : Wd) (H : Hp) : List (Key × V) → List (Key × Dat) → Prop
  | nil : DDk W H [] []
  | cons {k : Key} {v : V} {vs : List (Key × V)} {d : Dat} {ds : List (Key × Dat)} : DD W H v d → DDk W H vs ds → DDk W H ((k, v) :: vs) ((k, d) :: ds)
inductive DDf (W : Wd) (H : Hp) : List (Str × V) → List (Str × Dat) → Prop
  | nil : DDf W H [] []
  | cons {k : Str} {v : V} {vs : List (Str × V)} {d : Dat} {ds : List (Str × Dat)} : DD W H v d → DDf W H vs ds → DDf W H ((k, v) :: vs) ((k, d) :: ds)
end

/-- what never changes -/
def ImmD (W : Wd) : HO → Prop
  | .lst _ | .dK _ | .dT _ | .set _ _ | .tbl _ => False
  | .ins C _ fs => W.at_ C ≤ fs.length
  | _ => True
def MoD (W : Wd) (H H' : Hp) : Prop := ∀ a o, ImmD W o → H a = some o → H' a = some o
section
variable {W : Wd} {H H' H1 H2 : Hp}
theorem MoD.refl : MoD W H H := fun _ _ _ h => h
theorem MoD.trans (a : MoD W H H1) (b : MoD W H1 H2) : MoD W H H2 := fun c o i h => b c o i (a c o i h)
theorem MoD.same (s : Same H H') : MoD W H H' := fun a o _ h => s a o h
theorem sqT_mo {K : PySem.W.Frag} {a : Addr} {xs : List V} (h : SqT K H a xs) (m : MoD W H H') : SqT K H' a xs := by
  rcases h with (h | ⟨o, h⟩) | h
  · exact .inl (.inl (m _ _ trivial h))
  · exact .inl (.inr ⟨o, m _ _ trivial h⟩)
  · exact .inr h
theorem sqS_mo {K : PySem.W.Frag} {a : Addr} (h : SqS K H a) (m : MoD W H H') : SqS K H' a := h.imp (fun ⟨o, xs, h, d⟩ => ⟨o, xs, m _ _ trivial h, d⟩) id
theorem exAt_mo {e C : Addr} {fs : List (Str × V)} (x : ExAt H e C fs) (m : MoD W H H') : ExAt H' e C fs := by
  obtain ⟨d, h1, h2⟩ := x
  exact ⟨d, h1.imp (m _ _ trivial) (m _ _ trivial), h2.imp (m _ _ trivial) (m _ _ trivial)⟩
mutual
theorem DD.mo (m : MoD W H H') : ∀ {v : V} {d : Dat}, DD W H v d → DD W H' v d
  | _, _, .non => .non
  | _, _, .bl b => .bl b
  | _, _, .int i => .int i
  | _, _, .str x => .str x
  | _, _, .lst l r => .lst (m _ _ trivial l) (DDs.mo m r)
  | _, _, .tup l q r => .tup (sqT_mo l m) (fun e => sqS_mo (q e) m) (DDs.mo m r)
  | _, _, .dic l r => .dic (m _ _ trivial l) (DDk.mo m r)
  | _, _, .obj e l n r => .obj e (m _ _ n l) n (DDf.mo m r)
  | _, _, .exc e l r => .exc e (exAt_mo l m) (DDf.mo m r)
theorem DDs.mo (m : MoD W H H') : ∀ {v : List V} {d : List Dat}, DDs W H v d → DDs W H' v d
  | _, _, .nil => .nil
  | _, _, .cons a b => .cons (DD.mo m a) (DDs.mo m b)
theorem DDk.mo (m : MoD W H H') : ∀ {v : List (Key × V)} {d : List (Key × Dat)}, DDk W H v d → DDk W H' v d
  | _, _, .nil => .nil
  | _, _, .cons a b => .cons (DD.mo m a) (DDk.mo m b)
theorem DDf.mo (m : MoD W H H') : ∀ {v : List (Str × V)} {d : List (Str × Dat)}, DDf W H v d → DDf W H' v d
  | _, _, .nil => .nil
  | _, _, .cons a b => .cons (DD.mo m a) (DDf.mo m b)
end
theorem DDs.len : ∀ {v : List V} {d : List Dat}, DDs W H v d → v.length = d.length
  | _, _, .nil => rfl
  | _, _, .cons _ b => congrArg Nat.succ b.len
theorem DDk.len : ∀ {v : List (Key × V)} {d : List (Key × Dat)}, DDk W H v d → v.length = d.length
  | _, _, .nil => rfl
  | _, _, .cons _ b => congrArg Nat.succ b.len
theorem DDf.len : ∀ {v : List (Str × V)} {d : List (Str × Dat)}, DDf W H v d → v.length = d.length
  | _, _, .nil => rfl
  | _, _, .cons _ b => congrArg Nat.succ b.len
theorem DDs.app : ∀ {v v' : List V} {d d' : List Dat}, DDs W H v d → DDs W H v' d' → DDs W H (v ++ v') (d ++ d')
  | _, _, _, _, .nil, h => h
  | _, _, _, _, .cons a b, h => .cons a (b.app h)
theorem DDf.app : ∀ {v v' : List (Str × V)} {d d' : List (Str × Dat)}, DDf W H v d → DDf W H v' d' → DDf W H (v ++ v') (d ++ d')
  | _, _, _, _, .nil, h => h
  | _, _, _, _, .cons a b, h => .cons a (b.app h)
theorem DDs.getD : ∀ {vs : List V} {ds : List Dat} {i : Nat} {d : Dat}, DDs W H vs ds → ds[i]? = some d → ∃ v, vs[i]? = some v ∧ DD W H v d
  | _, _, i, _, .nil, e => by simp at e
  | _, _, 0, d, .cons a _, e => ⟨_, rfl, by
    have e' := Option.some.inj (show some _ = some d from e)
    rw [← e']
    exact a⟩
  | _, _, i + 1, v, .cons _ b, e => by
    obtain ⟨d, h1, h2⟩ := DDs.getD (i := i) b (by simpa using e)
    exact ⟨d, by simpa using h1, h2⟩
theorem DDs.get : ∀ {vs : List V} {ds : List Dat} {i : Nat} {v : V}, DDs W H vs ds → vs[i]? = some v → ∃ d, ds[i]? = some d ∧ DD W H v d
  | _, _, i, _, .nil, e => by simp at e
  | _, _, 0, d, .cons a _, e => ⟨_, rfl, by
    have e' := Option.some.inj (show some _ = some d from e)
    rw [← e']
    exact a⟩
  | _, _, i + 1, v, .cons _ b, e => by
    obtain ⟨d, h1, h2⟩ := DDs.get (i := i) b (by simpa using e)
    exact ⟨d, by simpa using h1, h2⟩
theorem DDs.drop : ∀ {vs : List V} {ds : List Dat} (i : Nat), DDs W H vs ds → DDs W H (vs.drop i) (ds.drop i)
  | _, _, 0, h => h
  | _, _, i + 1, .nil => .nil
  | _, _, i + 1, .cons _ b => DDs.drop i b
theorem DDs.take : ∀ {vs : List V} {ds : List Dat} (i : Nat), DDs W H vs ds → DDs W H (vs.take i) (ds.take i)
  | _, _, 0, h => .nil
  | _, _, i + 1, .nil => .nil
  | _, _, i + 1, .cons a b => .cons a (DDs.take i b)
theorem DDs.rev : ∀ {vs : List V} {ds : List Dat}, DDs W H vs ds → DDs W H vs.reverse ds.reverse
  | _, _, .nil => .nil
  | _, _, .cons (v := v) (vs := vs) (d := d) (ds := ds) a b => by
    rw [List.reverse_cons, List.reverse_cons]
    exact (DDs.rev b).app (.cons a .nil)
theorem DDf.look : ∀ {vs : List (Str × V)} {ds : List (Str × Dat)} {x : Str} {d : Dat}, DDf W H vs ds → ds.lookup x = some d → ∃ v, vs.lookup x = some v ∧ DD W H v d
  | _, _, x, _, .nil, e => by simp at e
  | _, _, x, d, .cons (k := k) a b, e => by
    rw [List.lookup_cons] at e ⊢
    cases q : x == k with
    | true =>
      rw [q] at e
      cases e
      exact ⟨_, rfl, a⟩
    | false =>
      rw [q] at e
      exact DDf.look b e
theorem DDf.look_none : ∀ {vs : List (Str × V)} {ds : List (Str × Dat)} {x : Str}, DDf W H vs ds → ds.lookup x = none → vs.lookup x = none
  | _, _, x, .nil, e => rfl
  | _, _, x, .cons (k := k) a b, e => by
    rw [List.lookup_cons] at e ⊢
    cases q : x == k with
    | true =>
      rw [q] at e
      cases e
    | false =>
      rw [q] at e
      exact DDf.look_none b e
end

/-- what stays once it is so -/
abbrev Pn (W : Wd) := { p : Hp → Prop // ∀ H H', MoD W H H' → p H → p H' }
def pinD {W : Wd} (v : V) (d : Dat) : Pn W := ⟨fun H => DD W H v d, fun _ _ m h => DD.mo m h⟩
def pinO {W : Wd} (a : Addr) (o : HO) (i : ImmD W o) : Pn W := ⟨fun H => H a = some o, fun _ _ m h => m _ _ i h⟩
/-! ### a def's frame -/
/-- what changes: a list, a dict, an object that is not yet whole -/
inductive MO where
  | lst (xs : List Dat) | dic (kvs : List (Key × Dat)) | ins (c : Str) (fs : List (Str × Dat))
inductive Sl where
  | no | d (x : Dat)
  /-- a thing that changes; the caller's (true) or of this frame -/
  | m (b : Bool) (o : MO)
  /-- the caller's thing, an object that is whole now -/
  | s (x : Dat)
abbrev Frm := List Sl
def MOk (W : Wd) (H : Hp) (a : Addr) : MO → Prop
  | .lst ds => ∃ xs, H a = some (.lst xs) ∧ DDs W H xs ds
  | .dic ds => ∃ kvs, H a = some (.dK kvs) ∧ DDk W H kvs ds
  | .ins c gs => ∃ C dx fs, W.mg c = some (.ref C) ∧ H a = some (.ins C dx fs) ∧ fs.length < W.at_ C ∧ DDf W H fs gs
def Own (g : Frm) (i : Nat) : Prop := ∃ b o, g[i]? = some (Sl.m b o)
/-- ps: the addresses of what the caller lets change, at the first slots; pn: what is held besides; ad: where the changing things lie; H0: the heap at the entry -/
structure EnvD (W : Wd) (ps : List Addr) (pn : List (Pn W)) (ad : Nat → Addr) (g : Frm) (σ : L2.St) (H0 H : Hp) : Prop where
  len : σ.length = g.length
  sd : ∀ (i : Nat) (x : Dat), g[i]? = some (Sl.d x) → ∃ v, σ[i]? = some (some v) ∧ DD W H v x
  sm : ∀ (i : Nat) (b : Bool) (o : MO), g[i]? = some (Sl.m b o) → σ[i]? = some (some (.ref (ad i))) ∧ MOk W H (ad i) o
  pp : ∀ (i : Nat) (b : Bool) (o : MO), g[i]? = some (Sl.m b o) → if b = true then ps[i]? = some (ad i) else H0 (ad i) = none
  ss : ∀ (i : Nat) (x : Dat), g[i]? = some (Sl.s x) → σ[i]? = some (some (.ref (ad i))) ∧ DD W H (.ref (ad i)) x ∧ ps[i]? = some (ad i)
  inj : ∀ i j, Own g i → Own g j → ad i = ad j → i = j
  ext : ∀ a o, a ∉ ps → H0 a = some o → H a = some o
  pin : ∀ p ∈ pn, p.1 H
  pex : ∀ a ∈ ps, ∃ o, H a = some o
/-- all but what changes is as it was -/
structure Kp (ad : Nat → Addr) (g : Frm) (H : Hp) (g' : Frm) (H' : Hp) : Prop where
  keep : ∀ a o, (∀ i, Own g i → a ≠ ad i) → H a = some o → H' a = some o
  own : ∀ i, Own g' i → Own g i
  old : ∀ a o, H a = some o → ∃ o', H' a = some o'
section
variable {W : Wd} {ps : List Addr} {pn : List (Pn W)} {ad : Nat → Addr} {g g1 g2 : Frm} {σ : L2.St} {H0 H H1 H2 : Hp}
theorem Kp.refl : Kp ad g H g H := ⟨fun _ _ _ h => h, fun _ h => h, fun _ o h => ⟨o, h⟩⟩
theorem Kp.trans (a : Kp ad g H g1 H1) (b : Kp ad g1 H1 g2 H2) : Kp ad g H g2 H2 :=
  ⟨fun c o n h => b.keep c o (fun i hi => n i (a.own i hi)) (a.keep c o n h), fun i h => a.own i (b.own i h), fun c o h => let ⟨o1, h1⟩ := a.old c o h; b.old c o1 h1⟩
theorem Kp.same (s : Same H H1) : Kp ad g H g H1 := ⟨fun a o _ h => s a o h, fun _ h => h, fun a o h => ⟨o, s _ _ h⟩⟩
theorem Kp.none (k : Kp ad g H g1 H1) {a : Addr} (h : H1 a = none) : H a = none := by
  cases q : H a with
  | none => rfl
  | some u =>
    obtain ⟨o, ho⟩ := k.old a u q
    rw [h] at ho
    cases ho
theorem EnvD.ownAt (e : EnvD W ps pn ad g σ H0 H) {i : Nat} (h : Own g i) : ∃ o, H (ad i) = some o ∧ ¬ ImmD W o := by
  obtain ⟨b, o, ho⟩ := h
  obtain ⟨_, m⟩ := e.sm i b o ho
  cases o with
  | lst ds => obtain ⟨xs, h, _⟩ := m; exact ⟨_, h, fun z => z⟩
  | dic ds => obtain ⟨xs, h, _⟩ := m; exact ⟨_, h, fun z => z⟩
  | ins c gs => obtain ⟨C, dx, fs, _, h, n, _⟩ := m; exact ⟨_, h, fun z => absurd (show W.at_ C ≤ fs.length from z) (by omega)⟩
theorem EnvD.mo (e : EnvD W ps pn ad g σ H0 H) (k : Kp ad g H g1 H1) : MoD W H H1 := fun a o i h => by
  refine k.keep a o (fun j hj z => ?_) h
  subst z
  obtain ⟨o', h', n⟩ := e.ownAt hj
  rw [h] at h'
  cases h'
  exact n i
theorem MOk.keep {a : Addr} {o : MO} (h : MOk W H a o) (m : MoD W H H1) (k : ∀ u, H a = some u → H1 a = some u) : MOk W H1 a o := by
  cases o with
  | lst ds => obtain ⟨xs, h, d⟩ := h; exact ⟨xs, k _ h, d.mo m⟩
  | dic ds => obtain ⟨xs, h, d⟩ := h; exact ⟨xs, k _ h, d.mo m⟩
  | ins c gs => obtain ⟨C, dx, fs, e, h, n, d⟩ := h; exact ⟨C, dx, fs, e, k _ h, n, d.mo m⟩
/-- a new thing -/
theorem EnvD.same (e : EnvD W ps pn ad g σ H0 H) (s : Same H H1) : EnvD W ps pn ad g σ H0 H1 := by
  have m : MoD W H H1 := MoD.same s
  exact ⟨e.len, fun i x h => let ⟨v, h1, h2⟩ := e.sd i x h; ⟨v, h1, h2.mo m⟩, fun i b o h => let ⟨h1, h2⟩ := e.sm i b o h; ⟨h1, h2.keep m fun u q => s _ _ q⟩, e.pp, fun i x h => let ⟨h1, h2, h3⟩ := e.ss i x h; ⟨h1, h2.mo m, h3⟩, e.inj, fun a o n h => s _ _ (e.ext a o n h), fun p hp => p.2 _ _ m (e.pin p hp), fun a ha => let ⟨o, h⟩ := e.pex a ha; ⟨o, s _ _ h⟩⟩
end

/-! ### mirrors -/
inductive R (α : Type) where
  | ok (a : α) (g : Frm) | ex (c : Str) (w : Dat) (g : Frm)
abbrev M (α : Type) := Frm → Option (R α)
def ret {α : Type} (a : α) : M α := fun g => some (.ok a g)
def bnd {α β : Type} (m : M α) (f : α → M β) : M β := fun g => match m g with
  | some (.ok a g') => f a g'
  | some (.ex c w g') => some (.ex c w g')
  | none => none
def lift {α : Type} (o : Option α) : M α := fun g => match o with
  | some a => some (.ok a g)
  | none => none
/-- a raised error's dict, that holds its value -/
def XV (W : Wd) (H : Hp) (dx : Addr) (w : Dat) : Prop := ∃ v, H dx = some (.xd [("value", v)]) ∧ DD W H v w
/-- what is wanted of an error, by the names' values then -/
abbrev SK := L2.St → XK
def XO (W : Wd) (E : SK) (ps : List Addr) (pn : List (Pn W)) (ad : Nat → Addr) (g : Frm) (σ : L2.St) (H0 H : Hp) {α : Type} (r : R α) : Prop :=
  ∀ c w g', r = .ex c w g' → ∀ C dx H', W.mg c = some (.ref C) → EnvD W ps pn ad g' σ H0 H' → Kp ad g H g' H' → XV W H' dx w → E σ (.ref C) (some dx) H'
/-- what a reading t tells by the mirror m: rel: how what is told stands to the mirror's -/
def Ev (W : Wd) (E : SK) {α β : Type} (rel : Hp → β → α → Prop) (t : L2.St → Hp → (β → Hp → Prop) → Prop) (m : M α) : Prop :=
  ∀ (ps : List Addr) (pn : List (Pn W)) (ad : Nat → Addr) (g : Frm) (σ : L2.St) (H0 H : Hp) (r : R α) (Q : β → Hp → Prop), m g = some r → EnvD W ps pn ad g σ H0 H → XO W E ps pn ad g σ H0 H r →
    (∀ a g', r = .ok a g' → ∀ b H', EnvD W ps pn ad g' σ H0 H' → Kp ad g H g' H' → rel H' b a → Q b H') → t σ H Q
abbrev EvE (W : Wd) (E : SK) (te : TE) (m : M Dat) : Prop := Ev W E (fun H v d => DD W H v d) te m
abbrev EvT (W : Wd) (E : SK) (tt : TT) (m : M Bool) : Prop := Ev W E (fun _ b c => b = c) tt m
abbrev EvA (W : Wd) (E : SK) (ta : TA) (m : M (List Dat)) : Prop := Ev W E (fun H vs ds => DDs W H vs ds) ta m
section
variable {W : Wd} {E : SK} {ps : List Addr} {pn : List (Pn W)} {ad : Nat → Addr} {g g1 g2 : Frm} {σ : L2.St} {H0 H H1 H2 : Hp}
theorem XO.shift {α : Type} {r : R α} (x : XO W E ps pn ad g σ H0 H r) (k : Kp ad g H g1 H1) : XO W E ps pn ad g1 σ H0 H1 r :=
  fun c w g' h C dx H' hm e k' v => x c w g' h C dx H' hm e (k.trans k') v
theorem bnd_some {α β : Type} {m : M α} {f : α → M β} {r : R β} (h : bnd m f g = some r) : (∃ a g', m g = some (.ok a g') ∧ f a g' = some r) ∨ ∃ c w g', m g = some (.ex c w g') ∧ r = .ex c w g' := by
  unfold bnd at h
  split at h
  · rename_i a g' e
    exact .inl ⟨a, g', e, h⟩
  · rename_i c w g' e
    cases h
    exact .inr ⟨c, w, g', e, rfl⟩
  · cases h
/-- the first of two -/
theorem Ev.go {α β γ : Type} {rel : Hp → β → α → Prop} {t : L2.St → Hp → (β → Hp → Prop) → Prop} {m : M α} {f : α → M γ} {r : R γ} {Q : β → Hp → Prop} (h : Ev W E rel t m) (hm : bnd m f g = some r) (e : EnvD W ps pn ad g σ H0 H) (x : XO W E ps pn ad g σ H0 H r)
    (k : ∀ a g' b H', f a g' = some r → EnvD W ps pn ad g' σ H0 H' → Kp ad g H g' H' → rel H' b a → XO W E ps pn ad g' σ H0 H' r → Q b H') : t σ H Q := by
  rcases bnd_some hm with ⟨a, g', h1, h2⟩ | ⟨c, w, g', h1, h2⟩
  · refine h ps pn ad g σ H0 H _ Q h1 e (fun c w g'' z => by cases z) fun a' g'' z b H' e' k' r' => ?_
    cases z
    exact k a g' b H' h2 e' k' r' (x.shift k')
  · refine h ps pn ad g σ H0 H _ Q h1 e (fun c' w' g'' z => ?_) fun a' g'' z => by cases z
    cases z
    exact x c w g' h2
theorem lift_some {α : Type} {o : Option α} {r : R α} (h : lift o g = some r) : ∃ a, o = some a ∧ r = .ok a g := by
  unfold lift at h
  split at h
  · rename_i a
    cases h
    exact ⟨a, rfl, rfl⟩
  · cases h
/-- nothing is raised here -/
theorem XO.ok {α : Type} {a : α} : XO W E ps pn ad g σ H0 H (.ok a g1) := fun c w g' z => by cases z
end
end DL

set_option Elab.async false
set_option linter.all false
set_option maxRecDepth 100000
set_option maxHeartbeats 4000000
/-! D1: expressions told by mirrors: names, constants, operators, tests, displays, items. -/
namespace DL
open PySem PySem.Spec PyProof.Rows L2 GX
/-- (.., ..): a new tuple, its object known -/
def tTupS (t : TA) : TE := fun σ H Q => t σ H fun xs H1 => xs.length ≤ sizeLine ∧ ∀ (p : Addr) (o : Obj), H1 p = none → o.dict = none → Q (.ref p) (upd H1 p (.frz o (.tup xs)))
theorem pe_tupS {X : Cx} {es : List Expr} {t : TA} {k : Nat} {pos : Pos} (h : PA X es t) : PE X (.Tuple es k pos) (tTupS t) := by
  refine ⟨fun pins s σ H Q I hq => wpAny_Tuple_spliced (thn (h.run pos pins s σ H _ I hq) fun us s1 ⟨xs, H1, I1, r, z, q⟩ => ⟨by rw [← r.length]; exact z, ?_⟩)⟩
  have e : (s1.heap.push { cls := .type "tuple", data := .seq us.toArray }).get? s1.heap.objs.size = some { cls := .type "tuple", data := .seq us.toArray } := Heap.get?_push_size _ rfl
  exact ⟨.ref _, _, I1.laid (t' := s1.toks) (o := .frz { cls := .type "tuple", data := .seq us.toArray } (.tup xs)) (fun b u w => Heap.get?_push_of_some _ w) (Nat.le_refl _) ⟨e, z, us, r, ⟨_, e, rfl, _, rfl⟩⟩, rfl, q _ _ (I1.hok.fresh (Nat.le_refl _)) rfl⟩
abbrev Wx (X : Cx) (at_ : Addr → Nat) : Wd := ⟨X.K, X.mg, at_⟩
/-- the expression e is told by m -/
def PV (X : Cx) (at_ : Addr → Nat) (E : SK) (e : Expr) (m : M Dat) : Prop := ∃ te, PE X e te ∧ EvE (Wx X at_) E te m
def PVT (X : Cx) (at_ : Addr → Nat) (E : SK) (e : Expr) (m : M Bool) : Prop := ∃ tt, PT X e tt ∧ EvT (Wx X at_) E tt m
def PVW (X : Cx) (at_ : Addr → Nat) (E : SK) (e : Expr) (m : M Bool) : Prop := ∃ tt, PW X e tt ∧ EvT (Wx X at_) E tt m
def PVA (X : Cx) (at_ : Addr → Nat) (E : SK) (es : List Expr) (m : M (List Dat)) : Prop := ∃ ta, PA X es ta ∧ EvA (Wx X at_) E ta m

/-! ### rules by values -/
def R2Ok (W : Wd) (r : R2) (f : Dat → Dat → Option Dat) : Prop := ∀ (H : Hp) (v w : V) (x y z : Dat) (Q : VK), f x y = some z → DD W H v x → DD W H w y → (∀ u H', Same H H' → DD W H' u z → Q u H') → r v w H Q
def R1Ok (W : Wd) (r : V → Hp → VK → Prop) (f : Dat → Option Dat) : Prop := ∀ (H : Hp) (v : V) (x z : Dat) (Q : VK), f x = some z → DD W H v x → (∀ u H', Same H H' → DD W H' u z → Q u H') → r v H Q
def RLOk (W : Wd) (r : List V → Hp → VK → Prop) (f : List Dat → Option Dat) : Prop := ∀ (H : Hp) (vs : List V) (ds : List Dat) (z : Dat) (Q : VK), f ds = some z → DDs W H vs ds → (∀ u H', Same H H' → DD W H' u z → Q u H') → r vs H Q

def mVar (i : Nat) : M Dat := fun g => match g[i]? with
  | some (.d x) => some (.ok x g)
  | some (.s x) => some (.ok x g)
  | _ => none
def mC (d : Dat) : M Dat := ret d
def mOp (f : Dat → Dat → Option Dat) (a b : M Dat) : M Dat := bnd a fun x => bnd b fun y => lift (f x y)
def mUn (f : Dat → Option Dat) (a : M Dat) : M Dat := bnd a fun x => lift (f x)
def mNil : M (List Dat) := ret []
def mCons (a : M Dat) (r : M (List Dat)) : M (List Dat) := bnd a fun x => bnd r fun xs => ret (x :: xs)
def mFn (f : List Dat → Option Dat) (a : M (List Dat)) : M Dat := bnd a fun xs => lift (f xs)
def asB : Dat → Option Bool
  | .bl b => some b
  | _ => none
def mTest (a : M Dat) : M Bool := bnd a fun x => lift (asB x)
def mNotT (a : M Bool) : M Bool := bnd a fun b => ret (!b)
def mAndT (a b : M Bool) : M Bool := bnd a fun c => if c = true then b else ret false
def mOrT (a b : M Bool) : M Bool := bnd a fun c => if c = true then ret true else b
def mNotV (a : M Dat) : M Dat := bnd a fun x => bnd (lift (asB x)) fun c => ret (.bl (!c))
def mAndV (a b : M Dat) : M Dat := bnd a fun x => bnd (lift (asB x)) fun c => if c = true then b else ret (.bl false)
def mOrV (a b : M Dat) : M Dat := bnd a fun x => bnd (lift (asB x)) fun c => if c = true then ret (.bl true) else b
def mIf {α : Type} (c : M Bool) (a b : M α) : M α := bnd c fun k => if k = true then a else b
def mChain (f f' : Dat → Dat → Option Dat) (a b c : M Dat) : M Dat := bnd a fun x => bnd b fun y => bnd (lift (f x y)) fun z => bnd (lift (asB z)) fun k => if k = true then bnd c fun w => lift (f' y w) else ret (.bl false)
def mkTup (xs : List Dat) : Option Dat := if xs.length ≤ sizeLine then some (.tup true xs) else none
def mkLst (xs : List Dat) : Option Dat := if xs.length ≤ sizeLine then some (.lst xs) else none
def mTup (a : M (List Dat)) : M Dat := bnd a fun xs => lift (mkTup xs)
def mLst (a : M (List Dat)) : M Dat := bnd a fun xs => lift (mkLst xs)

section
variable {W : Wd} {E : SK} {ps : List Addr} {pn : List (Pn W)} {ad : Nat → Addr} {g g1 g2 : Frm} {σ : L2.St} {H0 H H1 H2 : Hp}
theorem asB_some {d : Dat} {b : Bool} (h : asB d = some b) : d = .bl b := by
  cases d <;> first | cases h; rfl | cases h
theorem ret_some {α : Type} {a : α} {r : R α} (h : ret a g = some r) : r = .ok a g := by cases h; rfl
/-- the end of a chain: a value of the rule's, the heap grown -/
theorem endV {α β : Type} {rel : Hp → β → α → Prop} {a : α} {Q : β → Hp → Prop} (e : EnvD W ps pn ad g σ H0 H)
    (k : ∀ a' g', (R.ok a g : R α) = .ok a' g' → ∀ b H', EnvD W ps pn ad g' σ H0 H' → Kp ad g H g' H' → rel H' b a' → Q b H') : ∀ b H', Same H H' → rel H' b a → Q b H' :=
  fun b H' s r => k a g rfl b H' (e.same s) (Kp.same s) r
/-- behind several steps -/
theorem endK {α β : Type} {rel : Hp → β → α → Prop} {r : R α} {Q : β → Hp → Prop} (k1 : Kp ad g H g1 H1)
    (k : ∀ a' g', r = .ok a' g' → ∀ b H', EnvD W ps pn ad g' σ H0 H' → Kp ad g H g' H' → rel H' b a' → Q b H') : ∀ a' g', r = .ok a' g' → ∀ b H', EnvD W ps pn ad g' σ H0 H' → Kp ad g1 H1 g' H' → rel H' b a' → Q b H' :=
  fun a' g' e b H' e' k' rr => k a' g' e b H' e' (k1.trans k') rr
theorem ev_var {i : Nat} : EvE W E (tVar i) (mVar i) := fun ps pn ad g σ H0 H r Q hm e x k => by
  unfold mVar at hm
  split at hm
  · rename_i d hd
    cases hm
    obtain ⟨v, h1, h2⟩ := e.sd i d hd
    exact ⟨v, h1, k _ _ rfl v H e Kp.refl h2⟩
  · rename_i d hd
    cases hm
    obtain ⟨h1, h2, _⟩ := e.ss i d hd
    exact ⟨_, h1, k _ _ rfl _ H e Kp.refl h2⟩
  · cases hm
theorem ev_c {v : V} {d : Dat} (h : ∀ H, DD W H v d) : EvE W E (tC v) (mC d) := fun ps pn ad g σ H0 H r Q hm e x k => by
  cases hm
  exact k _ _ rfl v H e Kp.refl (h H)
theorem ev_op {r : R2} {f : Dat → Dat → Option Dat} {ta tb : TE} {ma mb : M Dat} (ho : R2Ok W r f) (ha : EvE W E ta ma) (hb : EvE W E tb mb) : EvE W E (tOp r ta tb) (mOp f ma mb) := fun ps pn ad g σ H0 H q Q hm e x k =>
  ha.go hm e x fun d1 g1 v1 H1 f1 e1 k1 r1 x1 => hb.go f1 e1 x1 fun d2 g2 v2 H2 f2 e2 k2 r2 x2 => by
    obtain ⟨z, hz, rfl⟩ := lift_some f2
    exact ho H2 v1 v2 d1 d2 z Q hz (r1.mo (e1.mo k2)) r2 (endV (rel := fun H v d => DD W H v d) e2 (endK (k1.trans k2) k))
theorem ev_un {r : V → Hp → VK → Prop} {f : Dat → Option Dat} {ta : TE} {ma : M Dat} (ho : R1Ok W r f) (ha : EvE W E ta ma) : EvE W E (tUn r ta) (mUn f ma) := fun ps pn ad g σ H0 H q Q hm e x k =>
  ha.go hm e x fun d1 g1 v1 H1 f1 e1 k1 r1 x1 => by
    obtain ⟨z, hz, rfl⟩ := lift_some f1
    exact ho H1 v1 d1 z Q hz r1 (endV (rel := fun H v d => DD W H v d) e1 (endK k1 k))
theorem ev_nil : EvA W E tNil mNil := fun ps pn ad g σ H0 H r Q hm e x k => by
  cases hm
  exact k _ _ rfl [] H e Kp.refl .nil
theorem ev_cons {ta : TE} {tr : TA} {ma : M Dat} {mr : M (List Dat)} (ha : EvE W E ta ma) (hr : EvA W E tr mr) : EvA W E (tCons ta tr) (mCons ma mr) := fun ps pn ad g σ H0 H q Q hm e x k =>
  ha.go hm e x fun d1 g1 v1 H1 f1 e1 k1 r1 x1 => hr.go f1 e1 x1 fun d2 g2 v2 H2 f2 e2 k2 r2 x2 => by
    cases f2
    exact k _ _ rfl (v1 :: v2) H2 e2 (k1.trans k2) (.cons (r1.mo (e1.mo k2)) r2)
theorem ev_cb {r : List V → Hp → VK → Prop} {f : List Dat → Option Dat} {ta : TA} {ma : M (List Dat)} (ho : RLOk W r f) (ha : EvA W E ta ma) : EvE W E (tCB r ta) (mFn f ma) := fun ps pn ad g σ H0 H q Q hm e x k =>
  ha.go hm e x fun d1 g1 v1 H1 f1 e1 k1 r1 x1 => by
    obtain ⟨z, hz, rfl⟩ := lift_some f1
    exact ho H1 v1 d1 z Q hz r1 (endV (rel := fun H v d => DD W H v d) e1 (endK k1 k))
theorem ev_test {ta : TE} {ma : M Dat} (ha : EvE W E ta ma) : EvT W E (tTest ta) (mTest ma) := fun ps pn ad g σ H0 H q Q hm e x k =>
  ha.go hm e x fun d1 g1 v1 H1 f1 e1 k1 r1 x1 => by
    obtain ⟨z, hz, rfl⟩ := lift_some f1
    cases asB_some hz
    cases r1
    exact ⟨z, rfl, k _ _ rfl z H1 e1 k1 rfl⟩
theorem ev_tb {ta : TE} {ma : M Dat} (ha : EvE W E ta ma) : EvT W E (tB ta) (mTest ma) := ev_test ha
theorem ev_notT {ta : TT} {ma : M Bool} (ha : EvT W E ta ma) : EvT W E (tNot ta) (mNotT ma) := fun ps pn ad g σ H0 H q Q hm e x k =>
  ha.go hm e x fun d1 g1 v1 H1 f1 e1 k1 r1 x1 => by
    cases f1
    subst r1
    exact k _ _ rfl _ H1 e1 k1 rfl
theorem ev_andT {ta tb : TT} {ma mb : M Bool} (ha : EvT W E ta ma) (hb : EvT W E tb mb) : EvT W E (tAnd ta tb) (mAndT ma mb) := fun ps pn ad g σ H0 H q Q hm e x k =>
  ha.go hm e x fun d1 g1 v1 H1 f1 e1 k1 r1 x1 => by
    subst r1
    cases v1 with
    | true => exact hb ps pn ad g1 σ H0 H1 q Q f1 e1 x1 (endK k1 k)
    | false => cases f1; exact k _ _ rfl _ H1 e1 k1 rfl
theorem ev_orT {ta tb : TT} {ma mb : M Bool} (ha : EvT W E ta ma) (hb : EvT W E tb mb) : EvT W E (tOr ta tb) (mOrT ma mb) := fun ps pn ad g σ H0 H q Q hm e x k =>
  ha.go hm e x fun d1 g1 v1 H1 f1 e1 k1 r1 x1 => by
    subst r1
    cases v1 with
    | false => exact hb ps pn ad g1 σ H0 H1 q Q f1 e1 x1 (endK k1 k)
    | true => cases f1; exact k _ _ rfl _ H1 e1 k1 rfl
theorem ev_notV {ta : TE} {ma : M Dat} (ha : EvE W E ta ma) : EvE W E (tNotV ta) (mNotV ma) := fun ps pn ad g σ H0 H q Q hm e x k =>
  ha.go hm e x fun d1 g1 v1 H1 f1 e1 k1 r1 x1 => by
    rcases bnd_some f1 with ⟨c, g', h1, h2⟩ | ⟨c, w, g', h1, h2⟩
    · obtain ⟨z, hz, e3⟩ := lift_some h1
      cases e3
      cases asB_some hz
      cases r1
      cases h2
      exact ⟨c, rfl, k _ _ rfl _ H1 e1 k1 (.bl _)⟩
    · obtain ⟨z, hz, e3⟩ := lift_some h1
      cases e3
theorem ev_andV {ta tb : TE} {ma mb : M Dat} (ha : EvE W E ta ma) (hb : EvE W E tb mb) : EvE W E (tAndV ta tb) (mAndV ma mb) := fun ps pn ad g σ H0 H q Q hm e x k =>
  ha.go hm e x fun d1 g1 v1 H1 f1 e1 k1 r1 x1 => by
    rcases bnd_some f1 with ⟨c, g', h1, h2⟩ | ⟨c, w, g', h1, h2⟩
    · obtain ⟨z, hz, e3⟩ := lift_some h1
      cases e3
      cases asB_some hz
      cases r1
      refine ⟨c, rfl, ?_⟩
      cases c with
      | true => exact hb ps pn ad g1 σ H0 H1 q Q h2 e1 x1 (endK k1 k)
      | false => cases h2; exact k _ _ rfl _ H1 e1 k1 (.bl _)
    · obtain ⟨z, hz, e3⟩ := lift_some h1
      cases e3
theorem ev_orV {ta tb : TE} {ma mb : M Dat} (ha : EvE W E ta ma) (hb : EvE W E tb mb) : EvE W E (tOrV ta tb) (mOrV ma mb) := fun ps pn ad g σ H0 H q Q hm e x k =>
  ha.go hm e x fun d1 g1 v1 H1 f1 e1 k1 r1 x1 => by
    rcases bnd_some f1 with ⟨c, g', h1, h2⟩ | ⟨c, w, g', h1, h2⟩
    · obtain ⟨z, hz, e3⟩ := lift_some h1
      cases e3
      cases asB_some hz
      cases r1
      refine ⟨c, rfl, ?_⟩
      cases c with
      | false => exact hb ps pn ad g1 σ H0 H1 q Q h2 e1 x1 (endK k1 k)
      | true => cases h2; exact k _ _ rfl _ H1 e1 k1 (.bl _)
    · obtain ⟨z, hz, e3⟩ := lift_some h1
      cases e3
theorem ev_if {tc : TT} {ta tb : TE} {mc : M Bool} {ma mb : M Dat} (hc : EvT W E tc mc) (ha : EvE W E ta ma) (hb : EvE W E tb mb) : EvE W E (tIf tc ta tb) (mIf mc ma mb) := fun ps pn ad g σ H0 H q Q hm e x k =>
  hc.go hm e x fun d1 g1 v1 H1 f1 e1 k1 r1 x1 => by
    subst r1
    cases v1 with
    | true => exact ha ps pn ad g1 σ H0 H1 q Q f1 e1 x1 (endK k1 k)
    | false => exact hb ps pn ad g1 σ H0 H1 q Q f1 e1 x1 (endK k1 k)
theorem ev_chain {r r' : R2} {f f' : Dat → Dat → Option Dat} {ta tb tc : TE} {ma mb mc : M Dat} (ho : R2Ok W r f) (ho' : R2Ok W r' f') (ha : EvE W E ta ma) (hb : EvE W E tb mb) (hc : EvE W E tc mc) : EvE W E (tChain r r' ta tb tc) (mChain f f' ma mb mc) := fun ps pn ad g σ H0 H q Q hm e x k =>
  ha.go hm e x fun d1 g1 v1 H1 f1 e1 k1 r1 x1 => hb.go f1 e1 x1 fun d2 g2 v2 H2 f2 e2 k2 r2 x2 => by
    rcases bnd_some f2 with ⟨z, g3, h1, h2⟩ | ⟨c, w, g', h1, h2⟩
    · obtain ⟨z', hz, e3⟩ := lift_some h1
      cases e3
      refine ho H2 v1 v2 d1 d2 z _ hz (r1.mo (e1.mo k2)) r2 fun u H3 s3 rz => ?_
      rcases bnd_some h2 with ⟨c, g4, h3, h4⟩ | ⟨c, w, g', h3, h4⟩
      · obtain ⟨c', hc', e4⟩ := lift_some h3
        cases e4
        cases asB_some hc'
        cases rz
        have e3' := e2.same s3
        have k3 : Kp ad g H g2 H3 := (k1.trans k2).trans (Kp.same s3)
        refine ⟨c, rfl, ?_⟩
        cases c with
        | false =>
          cases h4
          exact k _ _ rfl _ H3 e3' k3 (.bl _)
        | true =>
          refine hc.go h4 e3' (x2.shift (Kp.same s3)) fun d4 g4 v4 H4 f4 e4 k4 r4 x4 => ?_
          obtain ⟨z4, hz4, rfl⟩ := lift_some f4
          exact ho' H4 v2 v4 d2 d4 z4 Q hz4 ((r2.mo (MoD.same s3)).mo (e3'.mo k4)) r4 (endV (rel := fun H v d => DD W H v d) e4 (endK (k3.trans k4) k))
      · obtain ⟨z, hz, e3⟩ := lift_some h3
        cases e3
    · obtain ⟨z, hz, e3⟩ := lift_some h1
      cases e3
theorem mkTup_some {xs : List Dat} {d : Dat} (h : mkTup xs = some d) : d = .tup true xs ∧ xs.length ≤ sizeLine := by
  unfold mkTup at h
  split at h
  · cases h; exact ⟨rfl, by assumption⟩
  · cases h
theorem mkLst_some {xs : List Dat} {d : Dat} (h : mkLst xs = some d) : d = .lst xs ∧ xs.length ≤ sizeLine := by
  unfold mkLst at h
  split at h
  · cases h; exact ⟨rfl, by assumption⟩
  · cases h
theorem dd_newT {p : Addr} {vs : List V} {ds : List Dat} (hp : H p = none) (h : DDs W H vs ds) : DD W (upd H p (.tup vs)) (.ref p) (.tup false ds) := .tup (.inl (.inl upd_same)) (fun e => by cases e) (h.mo (MoD.same (Same.new hp)))
theorem dd_newTS {p : Addr} {o : Obj} {vs : List V} {ds : List Dat} (hp : H p = none) (ho : o.dict = none) (h : DDs W H vs ds) : DD W (upd H p (.frz o (.tup vs))) (.ref p) (.tup true ds) := .tup (.inl (.inr ⟨o, upd_same⟩)) (fun _ => .inl ⟨o, vs, upd_same, ho⟩) (h.mo (MoD.same (Same.new hp)))
theorem dd_newL {p : Addr} {o : Obj} {vs : List V} {ds : List Dat} (hp : H p = none) (h : DDs W H vs ds) : DD W (upd (upd H p (.lst vs)) p (.frz o (.lst vs))) (.ref p) (.lst ds) := .lst upd_same (h.mo (MoD.same (same_fz hp)))
theorem ev_tup {ta : TA} {ma : M (List Dat)} (ha : EvA W E ta ma) : EvE W E (tTupS ta) (mTup ma) := fun ps pn ad g σ H0 H q Q hm e x k =>
  ha.go hm e x fun d1 g1 v1 H1 f1 e1 k1 r1 x1 => by
    obtain ⟨z, hz, rfl⟩ := lift_some f1
    obtain ⟨rfl, hl⟩ := mkTup_some hz
    exact ⟨by rw [r1.len]; exact hl, fun p o hp ho => endV (rel := fun H v d => DD W H v d) e1 (endK k1 k) _ _ (Same.new hp) (dd_newTS hp ho r1)⟩
theorem ev_lst {ta : TA} {ma : M (List Dat)} (ha : EvA W E ta ma) : EvE W E (tFz (tLst ta)) (mLst ma) := fun ps pn ad g σ H0 H q Q hm e x k =>
  ha.go hm e x fun d1 g1 v1 H1 f1 e1 k1 r1 x1 => by
    obtain ⟨z, hz, rfl⟩ := lift_some f1
    obtain ⟨rfl, hl⟩ := mkLst_some hz
    exact ⟨by rw [r1.len]; exact hl, fun p hp => ⟨p, .lst v1, rfl, upd_same, rfl, fun o => endV (rel := fun H v d => DD W H v d) e1 (endK k1 k) _ _ (same_fz hp) (dd_newL hp r1)⟩⟩
end

/-! ### expressions -/
section
variable {X : Cx} {at_ : Addr → Nat} {E : SK} {a b c e : Expr} {es rest : List Expr} {pos : Pos} {ma mb mc : M Dat} {mA mB : M Bool} {ml : M (List Dat)}
theorem q_var {i : Nat} (h : PE X e (tVar i)) : PV X at_ E e (mVar i) := ⟨_, h, ev_var⟩
theorem q_int {i : Int} {j : Nat} : PV X at_ E (.Constant (.int i) j pos) (mC (.int i)) := ⟨_, pe_int, ev_c fun _ => .int i⟩
theorem q_bl {i : Bool} {j : Nat} : PV X at_ E (.Constant (.bool i) j pos) (mC (.bl i)) := ⟨_, pe_bl, ev_c fun _ => .bl i⟩
theorem q_non {j : Nat} : PV X at_ E (.Constant .none j pos) (mC .non) := ⟨_, pe_non, ev_c fun _ => .non⟩
theorem q_str {i : Str} {j : Nat} : PV X at_ E (.Constant (.str i) j pos) (mC (.str i)) := ⟨_, pe_str, ev_c fun _ => .str i⟩
theorem q_gint {x : Str} {i : Int} {t : Tok} (hm : X.mg x = some (.int i t)) (hg : Gl X x := by rfl) (hd : (x == ("__debug__" : Str)) = false := by decide) : PV X at_ E (.Name x pos) (mC (.int i)) := ⟨_, pe_gint hm hg hd, ev_c fun _ => .int i⟩
theorem q_op {op : Operator} {r : R2} {f : Dat → Dat → Option Dat} (ho : OpR X (binaryOp op) r) (hf : R2Ok (Wx X at_) r f) (ha : PV X at_ E a ma) (hb : PV X at_ E b mb) : PV X at_ E (.BinOp a op b pos) (mOp f ma mb) :=
  let ⟨_, p1, v1⟩ := ha; let ⟨_, p2, v2⟩ := hb; ⟨_, pe_op ho p1 p2, ev_op hf v1 v2⟩
theorem q_un {op : UnaryOp} {r : V → Hp → VK → Prop} {f : Dat → Option Dat} (ho : UnR X (unaryOp op) r) (hf : R1Ok (Wx X at_) r f) (ha : PV X at_ E a ma) : PV X at_ E (.UnaryOp op a pos) (mUn f ma) :=
  let ⟨_, p1, v1⟩ := ha; ⟨_, pe_un ho p1, ev_un hf v1⟩
theorem q_cmp {op : CmpOp} {r : R2} {f : Dat → Dat → Option Dat} (ho : OpR X (compareOp op) r) (hf : R2Ok (Wx X at_) r f) (ha : PV X at_ E a ma) (hb : PV X at_ E b mb) (hm : behindInMarks op b = false) : PV X at_ E (.Compare a [op] [b] pos) (mOp f ma mb) :=
  let ⟨_, p1, v1⟩ := ha; let ⟨_, p2, v2⟩ := hb; ⟨_, pe_cmpR ho p1 p2 hm, ev_op hf v1 v2⟩
theorem t_cmp {op : CmpOp} {r : R2} {f : Dat → Dat → Option Dat} (ho : OpR X (compareOp op) r) (hf : R2Ok (Wx X at_) r f) (ha : PV X at_ E a ma) (hb : PV X at_ E b mb) (hm : behindInMarks op b = false) : PVT X at_ E (.Compare a [op] [b] pos) (mTest (mOp f ma mb)) :=
  let ⟨_, p1, v1⟩ := ha; let ⟨_, p2, v2⟩ := hb; ⟨_, pt_cmpR ho p1 p2 hm, ev_test (ev_op hf v1 v2)⟩
theorem q_chain {op op' : CmpOp} {r r' : R2} {f f' : Dat → Dat → Option Dat} (ho : OpR X (compareOp op) r) (ho' : OpR X (compareOp op') r') (hf : R2Ok (Wx X at_) r f) (hf' : R2Ok (Wx X at_) r' f') (ha : PV X at_ E a ma) (hb : PV X at_ E b mb) (hc : PV X at_ E c mc) (hm : lastMarks [op, op'] [b, c] = false := by rfl) :
    PV X at_ E (.Compare a [op, op'] [b, c] pos) (mChain f f' ma mb mc) :=
  let ⟨_, p1, v1⟩ := ha; let ⟨_, p2, v2⟩ := hb; let ⟨_, p3, v3⟩ := hc; ⟨_, pe_chain ho ho' p1 p2 p3 hm, ev_chain hf hf' v1 v2 v3⟩
theorem t_val (h : PV X at_ E e ma) (he : ∀ whole, isTrue e X.env whole = (do let v ← whole; standAt e.pos; holding [v] (truthy v)) := by intro _; rfl) : PVT X at_ E e (mTest ma) := let ⟨_, p1, v1⟩ := h; ⟨_, pt_val p1 he, ev_tb v1⟩
theorem t_not (h : PVT X at_ E a mA) : PVT X at_ E (.UnaryOp .Not a pos) (mNotT mA) := let ⟨_, p1, v1⟩ := h; ⟨_, pt_not p1, ev_notT v1⟩
theorem t_w (h : PVW X at_ E e mA) : PVT X at_ E e mA := let ⟨_, p1, v1⟩ := h; ⟨_, p1.pt, v1⟩
theorem w_and1 (h : PVT X at_ E a mA) : PVW X at_ E (.BoolOp .And [a] pos) mA := let ⟨_, p1, v1⟩ := h; ⟨_, pw_and1 p1, v1⟩
theorem w_or1 (h : PVT X at_ E a mA) : PVW X at_ E (.BoolOp .Or [a] pos) mA := let ⟨_, p1, v1⟩ := h; ⟨_, pw_or1 p1, v1⟩
theorem w_and (h : PVT X at_ E a mA) (h2 : PVW X at_ E (.BoolOp .And (b :: rest) pos) mB) : PVW X at_ E (.BoolOp .And (a :: b :: rest) pos) (mAndT mA mB) := let ⟨_, p1, v1⟩ := h; let ⟨_, p2, v2⟩ := h2; ⟨_, pw_and p1 p2, ev_andT v1 v2⟩
theorem w_or (h : PVT X at_ E a mA) (h2 : PVW X at_ E (.BoolOp .Or (b :: rest) pos) mB) : PVW X at_ E (.BoolOp .Or (a :: b :: rest) pos) (mOrT mA mB) := let ⟨_, p1, v1⟩ := h; let ⟨_, p2, v2⟩ := h2; ⟨_, pw_or p1 p2, ev_orT v1 v2⟩
theorem q_one {op : BoolOp} (h : PV X at_ E a ma) : PV X at_ E (.BoolOp op [a] pos) ma := let ⟨_, p1, v1⟩ := h; ⟨_, pe_one p1, v1⟩
theorem q_and (h : PV X at_ E a ma) (h2 : PV X at_ E (.BoolOp .And (b :: rest) pos) mb) : PV X at_ E (.BoolOp .And (a :: b :: rest) pos) (mAndV ma mb) := let ⟨_, p1, v1⟩ := h; let ⟨_, p2, v2⟩ := h2; ⟨_, pe_and p1 p2, ev_andV v1 v2⟩
theorem q_or (h : PV X at_ E a ma) (h2 : PV X at_ E (.BoolOp .Or (b :: rest) pos) mb) : PV X at_ E (.BoolOp .Or (a :: b :: rest) pos) (mOrV ma mb) := let ⟨_, p1, v1⟩ := h; let ⟨_, p2, v2⟩ := h2; ⟨_, pe_or p1 p2, ev_orV v1 v2⟩
theorem q_not (h : PV X at_ E a ma) : PV X at_ E (.UnaryOp .Not a pos) (mNotV ma) := let ⟨_, p1, v1⟩ := h; ⟨_, pe_not p1, ev_notV v1⟩
theorem q_if (h : PVT X at_ E c mA) (ha : PV X at_ E a ma) (hb : PV X at_ E b mb) : PV X at_ E (.IfExp c a b pos) (mIf mA ma mb) := let ⟨_, p0, v0⟩ := h; let ⟨_, p1, v1⟩ := ha; let ⟨_, p2, v2⟩ := hb; ⟨_, pe_ifExp p0 p1 p2, ev_if v0 v1 v2⟩
theorem a_nil : PVA X at_ E [] mNil := ⟨_, pa_nil, ev_nil⟩
theorem a_cons (ha : PV X at_ E e ma) (hr : PVA X at_ E es ml) (hs : starEach (e :: es) X.env = (false, eval e X.env) :: starEach es X.env := by rfl) : PVA X at_ E (e :: es) (mCons ma ml) := let ⟨_, p1, v1⟩ := ha; let ⟨_, p2, v2⟩ := hr; ⟨_, pa_cons p1 p2 hs, ev_cons v1 v2⟩
theorem q_tup {k : Nat} (h : PVA X at_ E es ml) : PV X at_ E (.Tuple es k pos) (mTup ml) := let ⟨_, p1, v1⟩ := h; ⟨_, pe_tupS p1, ev_tup v1⟩
theorem q_lst (h : PVA X at_ E es ml) : PV X at_ E (.List es pos) (mLst ml) := let ⟨_, p1, v1⟩ := h; ⟨_, pe_fz (pe_lst p1), ev_lst v1⟩
theorem q_callB {x : Str} {p : Pos} {id : String} {r : List V → Hp → VK → Prop} {f : List Dat → Option Dat} (hc : CallR X (.builtin id) r) (hf : RLOk (Wx X at_) r f) (hm : X.mg x = none) (hv : bootBuiltins x = some (.builtin id)) (h : PVA X at_ E (e :: es) ml) (hg : Gl X x := by rfl)
    (hn : x ≠ "__name__" := by decide) (hd : (x == ("__debug__" : Str)) = false := by decide) (he : starEach (e :: es) X.env = (false, eval e X.env) :: starEach es X.env := by rfl) (hp : (backTo pos (starEach es X.env)).any (·.1) = false := by rfl) :
    PV X at_ E (.Call (.Name x p) (e :: es) [] pos) (mFn f ml) := let ⟨_, p1, v1⟩ := h; ⟨_, pe_callB hc hg hm hv p1 hn hd he hp, ev_cb hf v1⟩
theorem q_callTy {x : Str} {p : Pos} {T : String} {r : List V → Hp → VK → Prop} {f : List Dat → Option Dat} (hc : CallR X (.type T) r) (hf : RLOk (Wx X at_) r f) (hm : X.mg x = none) (hv : bootBuiltins x = some (.type T)) (h : PVA X at_ E (e :: es) ml) (hg : Gl X x := by rfl)
    (hn : x ≠ "__name__" := by decide) (hd : (x == ("__debug__" : Str)) = false := by decide) (he : starEach (e :: es) X.env = (false, eval e X.env) :: starEach es X.env := by rfl) (hp : (backTo pos (starEach es X.env)).any (·.1) = false := by rfl) :
    PV X at_ E (.Call (.Name x p) (e :: es) [] pos) (mFn f ml) := let ⟨_, p1, v1⟩ := h; ⟨_, pe_callTy hc hg hm hv p1 hn hd he hp, ev_cb hf v1⟩
end
end DL

set_option Elab.async false
set_option linter.all false
set_option maxRecDepth 100000
set_option maxHeartbeats 4000000
/-! D2: what operators and built-ins make of data. -/
namespace DL
open PySem PySem.Spec PyProof.Rows L2 GX
/-! ### plain data -/
mutual
def plain : Dat → Bool
  | .non | .bl _ | .int _ | .str _ => true
  | .lst xs | .tup _ xs => plainS xs
  | .dic kvs => plainK kvs
  | .obj _ _ | .exc _ _ => false
def plainS : List Dat → Bool
  | [] => true
  | x :: xs => plain x && plainS xs
def plainK : List (Key × Dat) → Bool
  | [] => true
  | (_, v) :: r => plain v && plainK r
end
mutual
def toP : Dat → PyData
  | .non => .none | .bl b => .bool b | .int i => .int i | .str x => .str x
  | .lst xs => .list (toPs xs)
  | .tup _ xs => .tuple (toPs xs)
  | .dic kvs => .dict (toPk kvs)
  | .obj _ _ | .exc _ _ => .none
def toPs : List Dat → List PyData
  | [] => []
  | x :: xs => toP x :: toPs xs
def toPk : List (Key × Dat) → List (PyData × PyData)
  | [] => []
  | (k, v) :: r => (kD k, toP v) :: toPk r
end
section
variable {W : Wd} {H : Hp}
mutual
theorem DD.plain : ∀ {v : V} {d : Dat}, DD W H v d → plain d = true → D (Now W.K H) v (toP d)
  | _, _, .non, _ => .non
  | _, _, .bl b, _ => .bl b
  | _, _, .int i, _ => .int i
  | _, _, .str x, _ => .str x
  | _, _, .lst (o := o) h a, p => .lst (show SqL W.K H _ _ from .inl (.inr ⟨o, h⟩)) (DDs.plain a (by simpa only [DL.plain] using p))
  | _, _, .tup h _ a, p => .tup (show SqT W.K H _ _ from h) (DDs.plain a (by simpa only [DL.plain] using p))
  | _, _, .dic (o := o) h a, p => .dic (show Rd H _ _ from .inr ⟨o, h⟩) (DDk.plain a (by simpa only [DL.plain] using p))
  | _, _, .obj _ _ _ _, p => by simp only [DL.plain] at p; cases p
  | _, _, .exc _ _ _, p => by simp only [DL.plain] at p; cases p
theorem DDs.plain : ∀ {v : List V} {d : List Dat}, DDs W H v d → plainS d = true → DA (Now W.K H) v (toPs d)
  | _, _, .nil, _ => .nil
  | _, _, .cons a b, p => by
    simp only [plainS, Bool.and_eq_true] at p
    exact .cons (DD.plain a p.1) (DDs.plain b p.2)
theorem DDk.plain : ∀ {v : List (Key × V)} {d : List (Key × Dat)}, DDk W H v d → plainK d = true → DK (Now W.K H) v (toPk d)
  | _, _, .nil, _ => .nil
  | _, _, .cons a b, p => by
    simp only [plainK, Bool.and_eq_true] at p
    exact .cons (DD.plain a p.1) (DDk.plain b p.2)
end
end
/-! ### the freezing of what may be a new list -/
def FzQ (Q : VK) : VK := fun v H1 => Q v H1 ∨ ∃ a u, v = .ref a ∧ H1 a = some u ∧ Fz u = true ∧ ∀ o, Q v (upd H1 a (.frz o u))
def tFzM (t : TE) : TE := fun σ H Q => t σ H (FzQ Q)
theorem pe_fzm {X : Cx} {e : Expr} {t : TE} (h : PE X e t) : PE X e (tFzM t) := by
  refine ⟨fun pins s σ H Q I q => thn (h.run pins s σ H _ I q) fun w s1 ⟨v, H1, I1, r1, q1⟩ => ?_⟩
  rcases q1 with q1 | ⟨a, u, ev, ea, f, q1⟩
  · exact ⟨v, H1, I1, r1, q1⟩
  · obtain ⟨o, J⟩ := Inv.freeze I1 ea f
    exact ⟨v, _, J, r1, q1 o⟩
def R2OkF (W : Wd) (r : R2) (f : Dat → Dat → Option Dat) : Prop := ∀ (H : Hp) (v w : V) (x y z : Dat) (Q : VK), f x y = some z → DD W H v x → DD W H w y → (∀ u H', Same H H' → DD W H' u z → Q u H') → r v w H (FzQ Q)
def RLOkF (W : Wd) (r : List V → Hp → VK → Prop) (f : List Dat → Option Dat) : Prop := ∀ (H : Hp) (vs : List V) (ds : List Dat) (z : Dat) (Q : VK), f ds = some z → DDs W H vs ds → (∀ u H', Same H H' → DD W H' u z → Q u H') → r vs H (FzQ Q)
section
variable {W : Wd} {E : SK}
theorem ev_opF {r : R2} {f : Dat → Dat → Option Dat} {ta tb : TE} {ma mb : M Dat} (ho : R2OkF W r f) (ha : EvE W E ta ma) (hb : EvE W E tb mb) : EvE W E (tFzM (tOp r ta tb)) (mOp f ma mb) := fun ps pn ad g σ H0 H q Q hm e x k =>
  ha.go hm e x fun d1 g1 v1 H1 f1 e1 k1 r1 x1 => hb.go f1 e1 x1 fun d2 g2 v2 H2 f2 e2 k2 r2 x2 => by
    obtain ⟨z, hz, rfl⟩ := lift_some f2
    exact ho H2 v1 v2 d1 d2 z Q hz (r1.mo (e1.mo k2)) r2 (endV (rel := fun H v d => DD W H v d) e2 (endK (k1.trans k2) k))
theorem ev_cbF {r : List V → Hp → VK → Prop} {f : List Dat → Option Dat} {ta : TA} {ma : M (List Dat)} (ho : RLOkF W r f) (ha : EvA W E ta ma) : EvE W E (tFzM (tCB r ta)) (mFn f ma) := fun ps pn ad g σ H0 H q Q hm e x k =>
  ha.go hm e x fun d1 g1 v1 H1 f1 e1 k1 r1 x1 => by
    obtain ⟨z, hz, rfl⟩ := lift_some f1
    exact ho H1 v1 d1 z Q hz r1 (endV (rel := fun H v d => DD W H v d) e1 (endK k1 k))
end
section
variable {X : Cx} {at_ : Addr → Nat} {E : SK} {a b e : Expr} {es : List Expr} {pos : Pos} {ma mb : M Dat} {ml : M (List Dat)}
theorem q_opF {op : Operator} {r : R2} {f : Dat → Dat → Option Dat} (ho : OpR X (binaryOp op) r) (hf : R2OkF (Wx X at_) r f) (ha : PV X at_ E a ma) (hb : PV X at_ E b mb) : PV X at_ E (.BinOp a op b pos) (mOp f ma mb) :=
  let ⟨_, p1, v1⟩ := ha; let ⟨_, p2, v2⟩ := hb; ⟨_, pe_fzm (pe_op ho p1 p2), ev_opF hf v1 v2⟩
theorem q_callBF {x : Str} {p : Pos} {id : String} {r : List V → Hp → VK → Prop} {f : List Dat → Option Dat} (hc : CallR X (.builtin id) r) (hf : RLOkF (Wx X at_) r f) (hm : X.mg x = none) (hv : bootBuiltins x = some (.builtin id)) (h : PVA X at_ E (e :: es) ml) (hg : Gl X x := by rfl)
    (hn : x ≠ "__name__" := by decide) (hd : (x == ("__debug__" : Str)) = false := by decide) (he : starEach (e :: es) X.env = (false, eval e X.env) :: starEach es X.env := by rfl) (hp : (backTo pos (starEach es X.env)).any (·.1) = false := by rfl) :
    PV X at_ E (.Call (.Name x p) (e :: es) [] pos) (mFn f ml) := let ⟨_, p1, v1⟩ := h; ⟨_, pe_fzm (pe_callB hc hg hm hv p1 hn hd he hp), ev_cbF hf v1⟩
theorem q_callTyF {x : Str} {p : Pos} {T : String} {r : List V → Hp → VK → Prop} {f : List Dat → Option Dat} (hc : CallR X (.type T) r) (hf : RLOkF (Wx X at_) r f) (hm : X.mg x = none) (hv : bootBuiltins x = some (.type T)) (h : PVA X at_ E (e :: es) ml) (hg : Gl X x := by rfl)
    (hn : x ≠ "__name__" := by decide) (hd : (x == ("__debug__" : Str)) = false := by decide) (he : starEach (e :: es) X.env = (false, eval e X.env) :: starEach es X.env := by rfl) (hp : (backTo pos (starEach es X.env)).any (·.1) = false := by rfl) :
    PV X at_ E (.Call (.Name x p) (e :: es) [] pos) (mFn f ml) := let ⟨_, p1, v1⟩ := h; ⟨_, pe_fzm (pe_callTy hc hg hm hv p1 hn hd he hp), ev_cbF hf v1⟩
end

/-! ### operators -/
/-- + of lists that are read -/
def rCatL : R2 := fun x y H Q => ∃ l b xs zs, x = .ref l ∧ y = .ref b ∧ Rd H l (.lst xs) ∧ Rd H b (.lst zs) ∧ xs.length + zs.length ≤ sizeLine ∧ ∀ p, H p = none → Q (.ref p) (upd H p (.lst (xs ++ zs)))
theorem op_catL {X : Cx} : OpR X (binaryOp .Add) rCatL := by
  intro pins s σ H x y v u Q I rx ry h
  obtain ⟨l, b, xs, zs, rfl, rfl, hH, hB, hz, q⟩ := h
  cases rx
  cases ry
  obtain ⟨z, its, n, r, e⟩ := hH.ok I.hok
  obtain ⟨z2, its2, n2, r2, e2⟩ := hB.ok I.hok
  have hl := r.length
  have hl2 := r2.length
  refine PySem.P.add_list e e2 ?_ (by rw [List.size_toArray, List.size_toArray]; omega)
  have ea : its.toArray ++ its2.toArray = (its ++ its2).toArray := by simp
  rw [ea]
  exact ⟨.ref _, _, I.lnew (t' := s.toks) (r.append r2) (by rw [List.length_append]; omega), rfl, q _ I.fresh⟩
def rAddZ (K : PySem.W.Frag) : R2 := fun x y H Q => rAddI x y H Q ∨ rAddT x y H Q ∨ rCatL x y H Q ∨ rCatA K x y H Q
theorem op_addZ {X : Cx} : OpR X (binaryOp .Add) (rAddZ X.K) := GX.OpR.or op_add (GX.OpR.or op_add_str (GX.OpR.or op_catL op_catA))
def addF : Dat → Dat → Option Dat
  | .int i, .int j => some (.int (i + j))
  | .str x, .str y => if x.length + y.length ≤ sizeLine then some (.str (x ++ y)) else none
  | .lst xs, .lst ys => if xs.length + ys.length ≤ sizeLine then some (.lst (xs ++ ys)) else none
  | .tup _ xs, .tup _ ys => if xs.length + ys.length ≤ sizeLine then some (.tup false (xs ++ ys)) else none
  | _, _ => none
def intF (f : Int → Int → Option Dat) : Dat → Dat → Option Dat
  | .int i, .int j => f i j
  | _, _ => none
def subF := intF fun i j => some (.int (i - j))
def mulF := intF fun i j => if i.natAbs.log2 + j.natAbs.log2 < 1000000 then some (.int (i * j)) else none
def fdivF := intF fun i j => if 0 < j ∧ j.natAbs.log2 < 9000 then some (.int (i / j)) else none
def modF := intF fun i j => if 0 < j then some (.int (i % j)) else none
def powF := intF fun i j => if 0 ≤ j ∧ j ≤ 1000000 ∧ i.natAbs < 2 ^ 64 then some (.int (i ^ j.toNat)) else if i = 10 ^ 60 ∧ j = 5 then some (.int (10 ^ 300)) else none
def negF : Dat → Option Dat
  | .int i => some (.int (-i))
  | _ => none
theorem intF_some {f : Int → Int → Option Dat} {x y z : Dat} (h : intF f x y = some z) : ∃ i j, x = .int i ∧ y = .int j ∧ f i j = some z := by
  cases x <;> cases y <;> first | exact ⟨_, _, rfl, rfl, h⟩ | cases h
section
variable {W : Wd}
theorem dd_int {H : Hp} {v : V} {i : Int} (h : DD W H v (.int i)) : v = .int i := by cases h; rfl
theorem dd_str {H : Hp} {v : V} {i : Str} (h : DD W H v (.str i)) : v = .str i := by cases h; rfl
theorem dd_bl {H : Hp} {v : V} {i : Bool} (h : DD W H v (.bl i)) : v = .bl i := by cases h; rfl
theorem dd_non {H : Hp} {v : V} (h : DD W H v .non) : v = .non := by cases h; rfl
theorem dd_tup {H : Hp} {v : V} {s : Bool} {ds : List Dat} (h : DD W H v (.tup s ds)) : ∃ a xs, v = .ref a ∧ SqT W.K H a xs ∧ DDs W H xs ds := by cases h with | tup h _ a => exact ⟨_, _, rfl, h, a⟩
theorem dd_tupS {H : Hp} {v : V} {s : Bool} {ds : List Dat} (h : DD W H v (.tup s ds)) : ∃ a xs, v = .ref a ∧ SqT W.K H a xs ∧ (s = true → SqS W.K H a) ∧ DDs W H xs ds := by cases h with | tup h q a => exact ⟨_, _, rfl, h, q, a⟩
theorem dd_weak {H : Hp} {v : V} {s : Bool} {ds : List Dat} (h : DD W H v (.tup s ds)) : DD W H v (.tup false ds) := by cases h with | tup h q a => exact .tup h (fun e => by cases e) a
theorem dd_lst {H : Hp} {v : V} {ds : List Dat} (h : DD W H v (.lst ds)) : ∃ a o xs, v = .ref a ∧ H a = some (.frz o (.lst xs)) ∧ DDs W H xs ds := by cases h with | lst h a => exact ⟨_, _, _, rfl, h, a⟩
theorem dd_dic {H : Hp} {v : V} {ds : List (Key × Dat)} (h : DD W H v (.dic ds)) : ∃ a o xs, v = .ref a ∧ H a = some (.frz o (.dK xs)) ∧ DDk W H xs ds := by cases h with | dic h a => exact ⟨_, _, _, rfl, h, a⟩
/-- a new tuple, a new list that is frozen at once -/
theorem dd_mkT {H : Hp} {p : Addr} {vs : List V} {ds : List Dat} {Q : VK} (hp : H p = none) (h : DDs W H vs ds) (k : ∀ u H', Same H H' → DD W H' u (.tup false ds) → Q u H') : Q (.ref p) (upd H p (.tup vs)) := k _ _ (Same.new hp) (dd_newT hp h)
theorem dd_mkL {H : Hp} {p : Addr} {vs : List V} {ds : List Dat} {Q : VK} (hp : H p = none) (h : DDs W H vs ds) (k : ∀ u H', Same H H' → DD W H' u (.lst ds) → Q u H') : FzQ Q (.ref p) (upd H p (.lst vs)) :=
  .inr ⟨p, .lst vs, rfl, upd_same, rfl, fun o => k _ _ (same_fz hp) (dd_newL hp h)⟩
theorem dd_mkD {H : Hp} {p : Addr} {vs : List (Key × V)} {ds : List (Key × Dat)} {Q : VK} (hp : H p = none) (h : DDk W H vs ds) (k : ∀ u H', Same H H' → DD W H' u (.dic ds) → Q u H') : FzQ Q (.ref p) (upd H p (.dK vs)) :=
  .inr ⟨p, .dK vs, rfl, upd_same, rfl, fun o => k _ _ (same_fz hp) (.dic upd_same (h.mo (MoD.same (same_fz hp))))⟩
theorem r_add : R2OkF W (rAddZ W.K) addF := fun H v w x y z Q h hx hy k => by
  cases x <;> cases y <;> try cases h
  · rename_i i j
    cases dd_int hx
    cases dd_int hy
    exact .inl ⟨i, j, rfl, rfl, .inl (k _ _ (Same.rf H) (.int _))⟩
  · rename_i i j
    cases dd_str hx
    cases dd_str hy
    simp only [addF] at h
    split at h
    · rename_i hl
      cases h
      exact .inr (.inl ⟨i, j, rfl, rfl, hl, .inl (k _ _ (Same.rf H) (.str _))⟩)
    · cases h
  · obtain ⟨a, o, xs, rfl, ha, da⟩ := dd_lst hx
    obtain ⟨b, o', ys, rfl, hb, db⟩ := dd_lst hy
    simp only [addF] at h
    split at h
    · rename_i hl
      cases h
      exact .inr (.inr (.inl ⟨a, b, xs, ys, rfl, rfl, .inr ⟨o, ha⟩, .inr ⟨o', hb⟩, by rw [da.len, db.len]; exact hl, fun p hp => dd_mkL hp (da.app db) k⟩))
    · cases h
  · obtain ⟨a, xs, rfl, ha, da⟩ := dd_tup hx
    obtain ⟨b, ys, rfl, hb, db⟩ := dd_tup hy
    simp only [addF] at h
    split at h
    · rename_i hl
      cases h
      refine .inr (.inr (.inr ⟨a, b, xs, ys, rfl, rfl, ha, hb, by rw [da.len, db.len]; exact hl, fun e => ?_, fun e1 e2 => ?_, fun e1 e2 p hp => ?_⟩))
      · subst e
        cases da
        exact .inl (k _ _ (Same.rf H) (.tup hb (fun e => by cases e) db))
      · subst e2
        cases db
        rw [List.append_nil] at k
        exact .inl (k _ _ (Same.rf H) (.tup ha (fun e => by cases e) da))
      · exact .inl (dd_mkT hp (da.app db) k)
    · cases h
theorem r_sub : R2Ok W (rI0 fun i j => .int (i - j)) subF := fun H v w x y z Q h hx hy k => by
  obtain ⟨i, j, rfl, rfl, e⟩ := intF_some h
  cases e
  cases dd_int hx
  cases dd_int hy
  exact ⟨i, j, rfl, rfl, k _ _ (Same.rf H) (.int _)⟩
theorem r_mul : R2Ok W (rI CMulW fun i j => .int (i * j)) mulF := fun H v w x y z Q h hx hy k => by
  obtain ⟨i, j, rfl, rfl, e⟩ := intF_some h
  split at e
  · rename_i hc
    cases e
    cases dd_int hx
    cases dd_int hy
    exact ⟨i, j, rfl, rfl, hc, k _ _ (Same.rf H) (.int _)⟩
  · cases e
theorem r_fdiv : R2Ok W (rI CDivW fun i j => .int (i / j)) fdivF := fun H v w x y z Q h hx hy k => by
  obtain ⟨i, j, rfl, rfl, e⟩ := intF_some h
  split at e
  · rename_i hc
    cases e
    cases dd_int hx
    cases dd_int hy
    exact ⟨i, j, rfl, rfl, hc, k _ _ (Same.rf H) (.int _)⟩
  · cases e
theorem r_mod : R2Ok W (rI (fun _ j => 0 < j) fun i j => .int (i % j)) modF := fun H v w x y z Q h hx hy k => by
  obtain ⟨i, j, rfl, rfl, e⟩ := intF_some h
  split at e
  · rename_i hc
    cases e
    cases dd_int hx
    cases dd_int hy
    exact ⟨i, j, rfl, rfl, hc, k _ _ (Same.rf H) (.int _)⟩
  · cases e
theorem r_pow : R2Ok W rPowA powF := fun H v w x y z Q h hx hy k => by
  obtain ⟨i, j, rfl, rfl, e⟩ := intF_some h
  cases dd_int hx
  cases dd_int hy
  split at e
  · rename_i hc
    cases e
    exact .inl ⟨i, j, rfl, rfl, hc, k _ _ (Same.rf H) (.int _)⟩
  · split at e
    · rename_i hc
      obtain ⟨rfl, rfl⟩ := hc
      cases e
      exact .inr ⟨rfl, rfl, k _ _ (Same.rf H) (.int _)⟩
    · cases e
theorem r_neg : R1Ok W (rU fun i => .int (-i)) negF := fun H v x z Q h hx k => by
  cases x <;> try cases h
  rename_i i
  cases dd_int hx
  exact ⟨i, rfl, k _ _ (Same.rf H) (.int _)⟩

/-! ### comparisons -/
def eqB (x y : Dat) : Option Bool := if (plain x && SeqAt.shaped (toP x)) && (plain y && SeqAt.shaped (toP y)) then some ((toP x).eqv (toP y)) else none
def eqF (x y : Dat) : Option Dat := (eqB x y).map Dat.bl
def neF (x y : Dat) : Option Dat := (eqB x y).map fun b => Dat.bl (!b)
theorem eqB_some {x y : Dat} {b : Bool} (h : eqB x y = some b) : plain x = true ∧ SeqAt.shaped (toP x) = true ∧ plain y = true ∧ SeqAt.shaped (toP y) = true ∧ b = (toP x).eqv (toP y) := by
  unfold eqB at h
  split at h
  · rename_i hc
    cases h
    obtain ⟨h1, h2⟩ := He.ba hc
    exact ⟨(He.ba h1).1, (He.ba h1).2, (He.ba h2).1, (He.ba h2).2, rfl⟩
  · cases h
theorem r_eq : R2Ok W (rEqX W.K) eqF := fun H v w x y z Q h hx hy k => by
  obtain ⟨b, hb, rfl⟩ := Option.map_eq_some_iff.mp h
  obtain ⟨p1, s1, p2, s2, rfl⟩ := eqB_some hb
  exact ⟨_, _, hx.plain p1, hy.plain p2, s1, s2, k _ _ (Same.rf H) (.bl _)⟩
theorem r_ne : R2Ok W (rNeX W.K) neF := fun H v w x y z Q h hx hy k => by
  obtain ⟨b, hb, rfl⟩ := Option.map_eq_some_iff.mp h
  obtain ⟨p1, s1, p2, s2, rfl⟩ := eqB_some hb
  exact ⟨_, _, hx.plain p1, hy.plain p2, s1, s2, k _ _ (Same.rf H) (.bl _)⟩
def ltF := intF fun i j => some (.bl (decide (i < j)))
def leF := intF fun i j => some (.bl (decide (i ≤ j)))
def gtF := intF fun i j => some (.bl (decide (j < i)))
def strLt (x y : Str) : Bool := decide (x.cps.toList < y.cps.toList)
def geF : Dat → Dat → Option Dat
  | .int i, .int j => some (.bl (decide (j ≤ i)))
  | .str x, .str y => some (.bl (!strLt x y))
  | _, _ => none
theorem r_cmpI {p : Int → Int → Bool} : R2Ok W (rI0 fun i j => .bl (p i j)) (intF fun i j => some (.bl (p i j))) := fun H v w x y z Q h hx hy k => by
  obtain ⟨i, j, rfl, rfl, e⟩ := intF_some h
  cases e
  cases dd_int hx
  cases dd_int hy
  exact ⟨i, j, rfl, rfl, k _ _ (Same.rf H) (.bl _)⟩
theorem r_lt : R2Ok W (rI0 fun i j => .bl (decide (i < j))) ltF := r_cmpI
theorem r_le : R2Ok W (rI0 fun i j => .bl (decide (i ≤ j))) leF := r_cmpI
theorem r_gt : R2Ok W (rI0 fun i j => .bl (decide (j < i))) gtF := r_cmpI
def rGeZ : R2 := fun x y H Q => (rI0 fun i j => .bl (decide (j ≤ i))) x y H Q ∨ (∃ i j, x = .str i ∧ y = .str j ∧ Q (.bl (!decide (i.cps.toList < j.cps.toList))) H)
theorem r_ge : R2Ok W rGeZ geF := fun H v w x y z Q h hx hy k => by
  cases x <;> cases y <;> try cases h
  · rename_i i j
    cases dd_int hx
    cases dd_int hy
    exact .inl ⟨i, j, rfl, rfl, k _ _ (Same.rf H) (.bl _)⟩
  · rename_i i j
    cases dd_str hx
    cases dd_str hy
    exact .inr ⟨i, j, rfl, rfl, k _ _ (Same.rf H) (.bl _)⟩
def isNon : Dat → Bool
  | .non => true
  | _ => false
def isNF (x y : Dat) : Option Dat := if isNon y then some (.bl (isNon x)) else none
def notNF (x y : Dat) : Option Dat := if isNon y then some (.bl (!isNon x)) else none
theorem dd_isN {H : Hp} {v : V} {x : Dat} (h : DD W H v x) : decide (v = .non) = isNon x := by cases h <;> rfl
theorem isNon_eq {x : Dat} (h : isNon x = true) : x = .non := by cases x <;> first | rfl | cases h
theorem r_isN : R2Ok W (fun x y H Q => y = .non ∧ Q (.bl (decide (x = .non))) H) isNF := fun H v w x y z Q h hx hy k => by
  unfold isNF at h
  split at h
  · rename_i hn
    cases h
    cases isNon_eq hn
    cases dd_non hy
    exact ⟨rfl, by rw [dd_isN hx]; exact k _ _ (Same.rf H) (.bl _)⟩
  · cases h
theorem r_notN : R2Ok W (fun x y H Q => y = .non ∧ Q (.bl (!decide (x = .non))) H) notNF := fun H v w x y z Q h hx hy k => by
  unfold notNF at h
  split at h
  · rename_i hn
    cases h
    cases isNon_eq hn
    cases dd_non hy
    exact ⟨rfl, by rw [dd_isN hx]; exact k _ _ (Same.rf H) (.bl _)⟩
  · cases h
/-! ### items -/
def ixF : Dat → Dat → Option Dat
  | .lst xs, .int i | .tup _ xs, .int i => atI xs i
  | .str z, .int i => if z.length ≤ sizeLine then (atI z.cps.toList i).map fun c => .str ⟨#[c]⟩ else none
  | _, _ => none
theorem dds_at {H : Hp} {vs : List V} {ds : List Dat} {i : Int} {d : Dat} (h : DDs W H vs ds) (e : atI ds i = some d) : ∃ v, atI vs i = some v ∧ DD W H v d := by
  unfold atI at e ⊢
  rw [h.len]
  cases q : ixN ds.length i with
  | none => rw [q] at e; cases e
  | some j =>
    rw [q] at e
    exact h.getD e
theorem r_ix : R2Ok W (rIx W.K) ixF := fun H v w x y z Q h hx hy k => by
  cases x <;> cases y <;> try cases h
  · rename_i z' i
    cases dd_str hx
    cases dd_int hy
    simp only [ixF] at h
    split at h
    · rename_i hl
      obtain ⟨c, hc, rfl⟩ := Option.map_eq_some_iff.mp h
      exact .inr (.inr ⟨z', i, c, rfl, rfl, hl, hc, k _ _ (Same.rf H) (.str _)⟩)
    · cases h
  · rename_i i
    obtain ⟨a, o, xs, rfl, ha, da⟩ := dd_lst hx
    cases dd_int hy
    obtain ⟨v, hv, dv⟩ := dds_at da h
    exact .inl ⟨a, xs, i, v, rfl, rfl, .inl (.inr ⟨o, ha⟩), hv, k _ _ (Same.rf H) dv⟩
  · rename_i i
    obtain ⟨a, xs, rfl, ha, da⟩ := dd_tup hx
    cases dd_int hy
    obtain ⟨v, hv, dv⟩ := dds_at da h
    exact .inr (.inl ⟨a, xs, i, v, rfl, rfl, ha, hv, k _ _ (Same.rf H) dv⟩)

/-! ### built-ins -/
def one (f : Dat → Option Dat) : List Dat → Option Dat
  | [x] => f x
  | _ => none
theorem one_some {f : Dat → Option Dat} {ds : List Dat} {z : Dat} (h : one f ds = some z) : ∃ x, ds = [x] ∧ f x = some z := by
  unfold one at h
  split at h
  · exact ⟨_, rfl, h⟩
  · cases h
theorem dds1 {H : Hp} {vs : List V} {d : Dat} (h : DDs W H vs [d]) : ∃ v, vs = [v] ∧ DD W H v d := by
  cases h with
  | cons a b => cases b; exact ⟨_, rfl, a⟩
theorem dds2 {H : Hp} {vs : List V} {d e : Dat} (h : DDs W H vs [d, e]) : ∃ v w, vs = [v, w] ∧ DD W H v d ∧ DD W H w e := by
  cases h with
  | cons a b =>
    obtain ⟨w, rfl, hw⟩ := dds1 b
    exact ⟨_, w, rfl, a, hw⟩
def lenF := one fun
  | .str x => if x.length ≤ sizeLine then some (.int (x.length : Nat)) else none
  | .lst xs | .tup _ xs => some (.int (xs.length : Nat))
  | _ => none
theorem r_len : RLOk W (fun xs H Q => ∃ x n, xs = [x] ∧ LenV W.K x H n ∧ Q (V.int ((n : Nat) : Int)) H) lenF := fun H vs ds z Q h hd k => by
  obtain ⟨x, rfl, hx⟩ := one_some h
  obtain ⟨v, rfl, dv⟩ := dds1 hd
  cases x <;> try cases hx
  · rename_i z'
    cases dd_str dv
    dsimp only at hx
    split at hx
    · rename_i hl
      cases hx
      exact ⟨_, _, rfl, ⟨hl, rfl⟩, k _ _ (Same.rf H) (.int _)⟩
    · cases hx
  · obtain ⟨a, o, xs, rfl, ha, da⟩ := dd_lst dv
    refine ⟨_, xs.length, rfl, .inl ⟨xs, .inl (.inr ⟨o, ha⟩), rfl⟩, ?_⟩
    rw [da.len]
    exact k _ _ (Same.rf H) (.int _)
  · obtain ⟨a, xs, rfl, ha, da⟩ := dd_tup dv
    refine ⟨_, xs.length, rfl, .inr ⟨xs, ha, rfl⟩, ?_⟩
    rw [da.len]
    exact k _ _ (Same.rf H) (.int _)
def absF := one fun
  | .int i => some (.int (if i < 0 then -i else i))
  | _ => none
theorem r_abs : RLOk W (fun xs H Q => ∃ i, xs = [V.int i] ∧ Q (V.int (if i < 0 then -i else i)) H) absF := fun H vs ds z Q h hd k => by
  obtain ⟨x, rfl, hx⟩ := one_some h
  obtain ⟨v, rfl, dv⟩ := dds1 hd
  cases x <;> try cases hx
  cases dd_int dv
  exact ⟨_, rfl, k _ _ (Same.rf H) (.int _)⟩
def reprF := one fun x => if plain x && gdB 1900 60 (toP x) then some (.str (toP x).shown) else none
theorem r_repr : RLOk W (rRepr W.K) reprF := fun H vs ds z Q h hd k => by
  obtain ⟨x, rfl, hx⟩ := one_some h
  obtain ⟨v, rfl, dv⟩ := dds1 hd
  split at hx
  · rename_i hc
    cases hx
    obtain ⟨h1, h2⟩ := He.ba hc
    exact ⟨v, toP x, rfl, dv.plain h1, gdB_ok h2, k _ _ (Same.rf H) (.str _)⟩
  · cases hx
def boolsO : List Dat → Option (List Bool)
  | [] => some []
  | .bl b :: r => (boolsO r).map (b :: ·)
  | _ => none
theorem bools_eq {H : Hp} : ∀ {ds : List Dat} {vs : List V} {bs : List Bool}, boolsO ds = some bs → DDs W H vs ds → vs = bs.map V.bl
  | [], _, _, h, .nil => by cases h; rfl
  | .bl b :: r, _, _, h, .cons a t => by
    obtain ⟨bs, hb, rfl⟩ := Option.map_eq_some_iff.mp (show (boolsO r).map (b :: ·) = _ from h)
    cases dd_bl a
    rw [bools_eq hb t]
    rfl
def allF := one fun
  | .lst xs => (boolsO xs).map fun bs => .bl (bs.all id)
  | _ => none
def anyF := one fun
  | .lst xs => (boolsO xs).map fun bs => .bl (bs.any id)
  | _ => none
theorem r_all : RLOk W (rAll W.K) allF := fun H vs ds z Q h hd k => by
  obtain ⟨x, rfl, hx⟩ := one_some h
  obtain ⟨v, rfl, dv⟩ := dds1 hd
  cases x <;> try cases hx
  obtain ⟨a, o, xs, rfl, ha, da⟩ := dd_lst dv
  obtain ⟨bs, hb, rfl⟩ := Option.map_eq_some_iff.mp hx
  refine ⟨a, bs, rfl, ?_, k _ _ (Same.rf H) (.bl _)⟩
  rw [← bools_eq hb da]
  exact .inl (.inr ⟨o, ha⟩)
theorem r_any : RLOk W (rAny W.K) anyF := fun H vs ds z Q h hd k => by
  obtain ⟨x, rfl, hx⟩ := one_some h
  obtain ⟨v, rfl, dv⟩ := dds1 hd
  cases x <;> try cases hx
  obtain ⟨a, o, xs, rfl, ha, da⟩ := dd_lst dv
  obtain ⟨bs, hb, rfl⟩ := Option.map_eq_some_iff.mp hx
  refine ⟨a, bs, rfl, ?_, k _ _ (Same.rf H) (.bl _)⟩
  rw [← bools_eq hb da]
  exact .inl (.inr ⟨o, ha⟩)
def intsO : List Dat → Option (List Int)
  | [] => some []
  | .int b :: r => (intsO r).map (b :: ·)
  | _ => none
theorem ints_eq {H : Hp} : ∀ {ds : List Dat} {vs : List V} {bs : List Int}, intsO ds = some bs → DDs W H vs ds → vs = bs.map V.int
  | [], _, _, h, .nil => by cases h; rfl
  | .int b :: r, _, _, h, .cons a t => by
    obtain ⟨bs, hb, rfl⟩ := Option.map_eq_some_iff.mp (show (intsO r).map (b :: ·) = _ from h)
    cases dd_int a
    rw [ints_eq hb t]
    rfl
theorem dds_ints {H : Hp} : ∀ ns : List Int, DDs W H (ns.map V.int) (ns.map Dat.int)
  | [] => .nil
  | n :: r => .cons (.int n) (dds_ints r)
def strsO : List Dat → Option (List Str)
  | [] => some []
  | .str b :: r => (strsO r).map (b :: ·)
  | _ => none
theorem strs_eq {H : Hp} : ∀ {ds : List Dat} {vs : List V} {bs : List Str}, strsO ds = some bs → DDs W H vs ds → vs = bs.map V.str
  | [], _, _, h, .nil => by cases h; rfl
  | .str b :: r, _, _, h, .cons a t => by
    obtain ⟨bs, hb, rfl⟩ := Option.map_eq_some_iff.mp (show (strsO r).map (b :: ·) = _ from h)
    cases dd_str a
    rw [strs_eq hb t]
    rfl
theorem dds_strs {H : Hp} : ∀ ns : List Str, DDs W H (ns.map V.str) (ns.map Dat.str)
  | [] => .nil
  | n :: r => .cons (.str n) (dds_strs r)
def sumF := one fun
  | .lst xs => (intsO xs).map fun bs => .int bs.sum
  | _ => none
theorem r_sum : RLOk W (rSum W.K) sumF := fun H vs ds z Q h hd k => by
  obtain ⟨x, rfl, hx⟩ := one_some h
  obtain ⟨v, rfl, dv⟩ := dds1 hd
  cases x <;> try cases hx
  obtain ⟨a, o, xs, rfl, ha, da⟩ := dd_lst dv
  obtain ⟨bs, hb, rfl⟩ := Option.map_eq_some_iff.mp hx
  refine ⟨a, bs, rfl, ?_, k _ _ (Same.rf H) (.int _)⟩
  rw [← ints_eq hb da]
  exact .inl (.inr ⟨o, ha⟩)
def intOfF := one fun
  | .int i => some (.int i)
  | .bl k => some (.int (if k = true then 1 else 0))
  | _ => none
theorem r_int : RLOk W (fun xs H Q => (∃ i, xs = [V.int i] ∧ Q (V.int i) H) ∨ ∃ k, xs = [V.bl k] ∧ Q (V.int (if k = true then 1 else 0)) H) intOfF := fun H vs ds z Q h hd k => by
  obtain ⟨x, rfl, hx⟩ := one_some h
  obtain ⟨v, rfl, dv⟩ := dds1 hd
  cases x <;> try cases hx
  · cases dd_bl dv
    exact .inr ⟨_, rfl, k _ _ (Same.rf H) (.int _)⟩
  · cases dd_int dv
    exact .inl ⟨_, rfl, k _ _ (Same.rf H) (.int _)⟩
def boolF := one fun
  | .int i => some (.bl (i != 0))
  | .bl k => some (.bl k)
  | _ => none
theorem r_bool : RLOk W (fun xs H Q => (∃ i, xs = [V.int i] ∧ Q (V.bl (i != 0)) H) ∨ ∃ k, xs = [V.bl k] ∧ Q (V.bl k) H) boolF := fun H vs ds z Q h hd k => by
  obtain ⟨x, rfl, hx⟩ := one_some h
  obtain ⟨v, rfl, dv⟩ := dds1 hd
  cases x <;> try cases hx
  · cases dd_bl dv
    exact .inr ⟨_, rfl, k _ _ (Same.rf H) (.bl _)⟩
  · cases dd_int dv
    exact .inl ⟨_, rfl, k _ _ (Same.rf H) (.bl _)⟩
def rTupS (K : PySem.W.Frag) : List V → Hp → VK → Prop := fun xs H Q => ∃ p ys, xs = [V.ref p] ∧ ((SqL K H p ys ∧ ∀ (l : Addr) (o : Obj), H l = none → o.dict = none → Q (V.ref l) (upd H l (.frz o (.tup ys)))) ∨ (SqT K H p ys ∧ Q (V.ref p) H))
theorem call_tupS {X : Cx} : CallR X (.type "tuple") (rTupS X.K) := by
  intro pins s σ H xs us Q I r ⟨p, ys, hx, h⟩
  subst hx
  obtain ⟨u, rfl, rx⟩ := vals1 r
  cases rx
  rcases h with ⟨hq, q⟩ | ⟨hq, q⟩
  · obtain ⟨its, r', pl, hz⟩ := I.list hq
    have hlen := r'.length
    refine call_tuple_list pl.isList (fun h' kp => ?_) (by simp only [List.size_toArray] <;> omega)
    have e : (h'.push { cls := .type "tuple", data := .seq its.toArray }).get? h'.objs.size = some { cls := .type "tuple", data := .seq its.toArray } := Heap.get?_push_size _ rfl
    have I1 : Inv X pins σ H { s with heap := h' } := I.kept (t' := s.toks) kp
    exact ⟨.ref h'.objs.size, _, I1.laid (t' := s.toks) (o := .frz { cls := .type "tuple", data := .seq its.toArray } (.tup ys)) (fun b o w => Heap.get?_push_of_some _ w) (Nat.le_refl _) ⟨e, hz, its, r', ⟨_, e, rfl, _, rfl⟩⟩, rfl, q _ _ (I1.hok.fresh (Nat.le_refl _)) rfl⟩
  · obtain ⟨its, r', pl, hz⟩ := I.tuple hq
    exact call_tuple_same pl ⟨.ref p, H, I, rfl, q⟩
def tupF := one fun
  | .lst xs => some (.tup true xs)
  | .tup s xs => some (.tup s xs)
  | _ => none
theorem r_tuple : RLOk W (rTupS W.K) tupF := fun H vs ds z Q h hd k => by
  obtain ⟨x, rfl, hx⟩ := one_some h
  obtain ⟨v, rfl, dv⟩ := dds1 hd
  cases x <;> try cases hx
  · obtain ⟨a, o, xs, rfl, ha, da⟩ := dd_lst dv
    exact ⟨a, xs, rfl, .inl ⟨.inl (.inr ⟨o, ha⟩), fun l o hl ho => k _ _ (Same.new hl) (dd_newTS hl ho da)⟩⟩
  · obtain ⟨a, xs, rfl, ha, q, da⟩ := dd_tupS dv
    exact ⟨a, xs, rfl, .inr ⟨ha, k _ _ (Same.rf H) (.tup ha q da)⟩⟩
def kDat : Key → Dat
  | .inl i => .int i
  | .inr x => .str x
theorem dd_kV {H : Hp} (k : Key) : DD W H (kV k) (kDat k) := by cases k <;> constructor
theorem ddk_keys {H : Hp} : ∀ {vs : List (Key × V)} {ds : List (Key × Dat)}, DDk W H vs ds → DDs W H (vs.map fun kv => kV kv.1) (ds.map fun kv => kDat kv.1)
  | _, _, .nil => .nil
  | _, _, .cons (k := k) a b => .cons (dd_kV k) (ddk_keys b)
def listF := one fun
  | .lst xs | .tup _ xs => some (.lst xs)
  | .dic kvs => some (.lst (kvs.map fun kv => kDat kv.1))
  | _ => none
def rListZ (K : PySem.W.Frag) : List V → Hp → VK → Prop := fun xs H Q => (∃ p ys, xs = [V.ref p] ∧ (SqL K H p ys ∨ SqT K H p ys) ∧ ∀ (l : Addr), H l = none → Q (V.ref l) (upd H l (HO.lst ys))) ∨
  ∃ a kvs, xs = [V.ref a] ∧ Rd H a (HO.dK kvs) ∧ ∀ (p : Addr), H p = none → Q (V.ref p) (upd H p (HO.lst (List.map (fun kv => kV kv.fst) kvs)))
theorem r_list : RLOkF W (rListZ W.K) listF := fun H vs ds z Q h hd k => by
  obtain ⟨x, rfl, hx⟩ := one_some h
  obtain ⟨v, rfl, dv⟩ := dds1 hd
  cases x <;> try cases hx
  · obtain ⟨a, o, xs, rfl, ha, da⟩ := dd_lst dv
    exact .inl ⟨a, xs, rfl, .inl (.inl (.inr ⟨o, ha⟩)), fun l hl => dd_mkL hl da k⟩
  · obtain ⟨a, xs, rfl, ha, da⟩ := dd_tup dv
    exact .inl ⟨a, xs, rfl, .inr ha, fun l hl => dd_mkL hl da k⟩
  · obtain ⟨a, o, xs, rfl, ha, da⟩ := dd_dic dv
    exact .inr ⟨a, xs, rfl, .inr ⟨o, ha⟩, fun l hl => dd_mkL hl (ddk_keys da) k⟩
def strF := one fun
  | .int i => if i.natAbs.log2 < 1920 then some (.str (Str.ofString (toString i))) else none
  | .str x => some (.str x)
  | _ => none
def min2F : List Dat → Option Dat
  | [.int i, .int j] => some (.int (if j < i then j else i))
  | _ => none
def max2F : List Dat → Option Dat
  | [.int i, .int j] => some (.int (if j > i then j else i))
  | _ => none
theorem r_min2 : RLOk W (fun xs H Q => ∃ i j, xs = [V.int i, V.int j] ∧ Q (V.int (if j < i then j else i)) H) min2F := fun H vs ds z Q h hd k => by
  unfold min2F at h
  split at h
  · cases h
    obtain ⟨v, w, rfl, dv, dw⟩ := dds2 hd
    cases dd_int dv
    cases dd_int dw
    exact ⟨_, _, rfl, k _ _ (Same.rf H) (.int _)⟩
  · cases h
theorem r_max2 : RLOk W (fun xs H Q => ∃ i j, xs = [V.int i, V.int j] ∧ Q (V.int (if j > i then j else i)) H) max2F := fun H vs ds z Q h hd k => by
  unfold max2F at h
  split at h
  · cases h
    obtain ⟨v, w, rfl, dv, dw⟩ := dds2 hd
    cases dd_int dv
    cases dd_int dw
    exact ⟨_, _, rfl, k _ _ (Same.rf H) (.int _)⟩
  · cases h
end
end DL

set_option Elab.async false
set_option linter.all false
set_option maxRecDepth 100000
set_option maxHeartbeats 4000000
/-! D3: statements, targets, walks, loops, comprehensions told by mirrors. -/
namespace DL
open PySem PySem.Spec PyProof.Rows L2 GX
inductive Fl where
  | nx | rt (d : Dat) | bk | ct
def XS (W : Wd) (E : SK) (ps : List Addr) (pn : List (Pn W)) (H0 : Hp) {α : Type} (r : R α) : Prop :=
  ∀ c w g', r = .ex c w g' → ∀ C dx ad' σ' H', W.mg c = some (.ref C) → EnvD W ps pn ad' g' σ' H0 H' → XV W H' dx w → E σ' (.ref C) (some dx) H'
def Post (W : Wd) (D : Ends) (σ' : L2.St) (H' : Hp) : Fl → Prop
  | .nx => D.nx σ' H'
  | .rt d => ∀ v, DD W H' v d → D.rt v H'
  | .bk => D.bk σ' H'
  | .ct => D.ct σ' H'
def KS (W : Wd) (ps : List Addr) (pn : List (Pn W)) (H0 : Hp) (D : Ends) (r : R Fl) : Prop :=
  ∀ f g', r = .ok f g' → ∀ ad' σ' H', EnvD W ps pn ad' g' σ' H0 H' → Post W D σ' H' f
def EvS (W : Wd) (E : SK) (ts : TS) (m : M Fl) : Prop :=
  ∀ (ps : List Addr) (pn : List (Pn W)) (ad : Nat → Addr) (g : Frm) (σ : L2.St) (H0 H : Hp) (r : R Fl) (D : Ends), m g = some r → EnvD W ps pn ad g σ H0 H → XS W E ps pn H0 r → KS W ps pn H0 D r → ts D σ H
def setD (i : Nat) (x : Dat) : M Unit := fun g => match g[i]? with
  | some (.m true _) => none
  | some (.s _) => none
  | some _ => some (.ok () (g.set i (.d x)))
  | none => none
/-- what a target does with a value -/
def EvG (W : Wd) (tg : TG) (mt : Dat → M Unit) : Prop :=
  ∀ (ps : List Addr) (pn : List (Pn W)) (ad : Nat → Addr) (g : Frm) (σ : L2.St) (H0 H : Hp) (v : V) (d : Dat) (g' : Frm) (Q : L2.St → Hp → Prop), mt d g = some (.ok () g') → EnvD W ps pn ad g σ H0 H → DD W H v d →
    (∀ σ', EnvD W ps pn ad g' σ' H0 H → Q σ' H) → tg v σ H Q
def EvGs (W : Wd) (tg : TGs) (mt : List Dat → M Unit) : Prop :=
  ∀ (ps : List Addr) (pn : List (Pn W)) (ad : Nat → Addr) (g : Frm) (σ : L2.St) (H0 H : Hp) (v : List V) (d : List Dat) (g' : Frm) (Q : L2.St → Hp → Prop), mt d g = some (.ok () g') → EnvD W ps pn ad g σ H0 H → DDs W H v d →
    (∀ σ', EnvD W ps pn ad g' σ' H0 H → Q σ' H) → tg v σ H Q
def mNext : M Fl := ret .nx
def mSeq (a b : M Fl) : M Fl := bnd a fun f => match f with
  | .nx => b
  | f => ret f
def mDrop (a : M Dat) : M Fl := bnd a fun _ => ret .nx
def mRet (a : M Dat) : M Fl := bnd a fun d => ret (.rt d)
def mRetN : M Fl := ret (.rt .non)
def mSet (i : Nat) (a : M Dat) : M Fl := bnd a fun d => bnd (setD i d) fun _ => ret .nx
def mAsg (t : Dat → M Unit) (a : M Dat) : M Fl := bnd a fun d => bnd (t d) fun _ => ret .nx
def tupT (n : Nat) (t : List Dat → M Unit) : Dat → M Unit := fun d => match d with
  | .tup _ xs => if xs.length = n then t xs else fun _ => none
  | _ => fun _ => none
def nilT : List Dat → M Unit
  | [] => ret ()
  | _ => fun _ => none
def consT (t : Dat → M Unit) (u : List Dat → M Unit) : List Dat → M Unit
  | x :: xs => bnd (t x) fun _ => u xs
  | [] => fun _ => none
def mPar (i j : Nat) (a : M (List Dat)) : M Fl := bnd a fun ds => match ds with
  | [x, y] => bnd (setD i x) fun _ => bnd (setD j y) fun _ => ret .nx
  | _ => fun _ => none
def mPar3 (i j l : Nat) (a : M (List Dat)) : M Fl := bnd a fun ds => match ds with
  | [x, y, z] => bnd (setD i x) fun _ => bnd (setD j y) fun _ => bnd (setD l z) fun _ => ret .nx
  | _ => fun _ => none
section
variable {W : Wd} {E : SK} {ps : List Addr} {pn pn' : List (Pn W)} {ad : Nat → Addr} {g g1 g2 g' : Frm} {σ : L2.St} {H0 H H1 H2 : Hp}
theorem EnvD.unpin (e : EnvD W ps (pn' ++ pn) ad g σ H0 H) : EnvD W ps pn ad g σ H0 H := ⟨e.len, e.sd, e.sm, e.pp, e.ss, e.inj, e.ext, fun p hp => e.pin p (List.mem_append_right _ hp), e.pex⟩
theorem EnvD.pinned (e : EnvD W ps pn ad g σ H0 H) (h : ∀ p ∈ pn', p.1 H) : EnvD W ps (pn' ++ pn) ad g σ H0 H :=
  ⟨e.len, e.sd, e.sm, e.pp, e.ss, e.inj, e.ext, fun p hp => (List.mem_append.mp hp).elim (h p) (e.pin p), e.pex⟩
/-- a slot is stored -/
theorem EnvD.set {i : Nat} {v : V} {x : Dat} (e : EnvD W ps pn ad g σ H0 H) (h : setD i x g = some (.ok () g')) (d : DD W H v x) : EnvD W ps pn ad g' (σ.set i (some v)) H0 H := by
  have hg : g' = g.set i (.d x) ∧ i < g.length := by
    unfold setD at h
    split at h
    · cases h
    · cases h
    · rename_i s _ _ hs
      cases h
      exact ⟨rfl, (List.getElem?_eq_some_iff.mp hs).1⟩
    · cases h
  obtain ⟨rfl, hi⟩ := hg
  have own : ∀ (j : Nat) (b : Bool) (o : MO), (g.set i (Sl.d x))[j]? = some (Sl.m b o) → i ≠ j ∧ g[j]? = some (Sl.m b o) := fun j b o q => by
    by_cases hj : i = j
    · subst hj
      rw [List.getElem?_set_self hi] at q
      cases q
    · rw [List.getElem?_set_ne hj] at q
      exact ⟨hj, q⟩
  refine ⟨by rw [List.length_set, List.length_set, e.len], fun j y q => ?_, fun j b o q => ?_, fun j b o q => e.pp j b o (own j b o q).2, fun j y q => ?_, fun j k hj hk => ?_, e.ext, e.pin, e.pex⟩
  · by_cases hj : i = j
    · subst hj
      rw [List.getElem?_set_self hi] at q
      cases q
      exact ⟨v, List.getElem?_set_self (by rw [e.len]; exact hi), d⟩
    · rw [List.getElem?_set_ne hj] at q ⊢
      exact e.sd j y q
  · obtain ⟨hj, q⟩ := own j b o q
    rw [List.getElem?_set_ne hj]
    exact e.sm j b o q
  · by_cases hj : i = j
    · subst hj
      rw [List.getElem?_set_self hi] at q
      cases q
    · rw [List.getElem?_set_ne hj] at q ⊢
      exact e.ss j y q
  · obtain ⟨b, o, q⟩ := hj
    obtain ⟨b', o', q'⟩ := hk
    exact e.inj j k ⟨b, o, (own j b o q).2⟩ ⟨b', o', (own k b' o' q').2⟩
theorem setD_ok {i : Nat} {x : Dat} {r : R Unit} (h : setD i x g = some r) : ∃ g', r = .ok () g' := by
  unfold setD at h
  split at h
  · cases h
  · cases h
  · cases h; exact ⟨_, rfl⟩
  · cases h
theorem bnd_setD {β : Type} {i : Nat} {x : Dat} {f : Unit → M β} {r : R β} (h : bnd (setD i x) f g = some r) : ∃ g', setD i x g = some (.ok () g') ∧ f () g' = some r := by
  rcases bnd_some h with ⟨a, g', h1, h2⟩ | ⟨c, w, g', h1, h2⟩
  · exact ⟨g', h1, h2⟩
  · obtain ⟨g'', e⟩ := setD_ok h1
    cases e
/-- an expression ahead of what is done with its value -/
theorem Ev.goS {α β : Type} {rel : Hp → β → α → Prop} {t : L2.St → Hp → (β → Hp → Prop) → Prop} {m : M α} {f : α → M Fl} {r : R Fl} {Q : β → Hp → Prop} (h : Ev W E rel t m) (hm : bnd m f g = some r) (e : EnvD W ps pn ad g σ H0 H) (x : XS W E ps pn H0 r)
    (k : ∀ a g' b H', f a g' = some r → EnvD W ps pn ad g' σ H0 H' → Kp ad g H g' H' → rel H' b a → Q b H') : t σ H Q :=
  h.go hm e (fun c w g' z C dx H' hm' e' k' v => x c w g' z C dx ad σ H' hm' e' v) fun a g' b H' h1 e1 k1 r1 _ => k a g' b H' h1 e1 k1 r1
theorem s_next : EvS W E tNext mNext := fun ps pn ad g σ H0 H r D hm e x k => by
  cases hm
  exact k .nx g rfl ad σ H e
theorem KS.mono {D D' : Ends} {r : R Fl} (k : KS W ps pn H0 D r) (h : ∀ f σ' H', Post W D σ' H' f → Post W D' σ' H' f) : KS W ps pn H0 D' r := fun f g' z ad' σ' H' e => h f σ' H' (k f g' z ad' σ' H' e)
theorem s_seq {t u : TS} {a b : M Fl} (ha : EvS W E t a) (hb : EvS W E u b) : EvS W E (tSeq t u) (mSeq a b) := fun ps pn ad g σ H0 H r D hm e x k => by
  rcases bnd_some hm with ⟨f, g', h1, h2⟩ | ⟨c, w, g', h1, h2⟩
  · refine ha ps pn ad g σ H0 H _ { D with nx := u D } h1 e (fun c w g'' z => by cases z) fun f' g'' z ad' σ' H' e' => ?_
    cases z
    cases f with
    | nx => exact hb ps pn ad' g' σ' H0 H' r D h2 e' x k
    | rt d => cases h2; exact k _ _ rfl ad' σ' H' e'
    | bk => cases h2; exact k _ _ rfl ad' σ' H' e'
    | ct => cases h2; exact k _ _ rfl ad' σ' H' e'
  · subst h2
    exact ha ps pn ad g σ H0 H _ { D with nx := u D } h1 e (fun c' w' g'' z => by cases z; exact x _ _ _ rfl) fun f' g'' z => by cases z
theorem s_drop {te : TE} {m : M Dat} (h : EvE W E te m) : EvS W E (tDrop te) (mDrop m) := fun ps pn ad g σ H0 H r D hm e x k =>
  h.goS hm e x fun a g' b H' h1 e1 k1 r1 => by cases h1; exact k .nx _ rfl ad σ H' e1
theorem s_ret {te : TE} {m : M Dat} (h : EvE W E te m) : EvS W E (tRet te) (mRet m) := fun ps pn ad g σ H0 H r D hm e x k =>
  h.goS hm e x fun a g' b H' h1 e1 k1 r1 => by cases h1; exact k (.rt a) _ rfl ad σ H' e1 b r1
theorem s_retN : EvS W E tRetN mRetN := fun ps pn ad g σ H0 H r D hm e x k => by
  cases hm
  exact k (.rt .non) _ rfl ad σ H e .non .non
theorem s_if {tc : TT} {t u : TS} {mc : M Bool} {a b : M Fl} (hc : EvT W E tc mc) (ha : EvS W E t a) (hb : EvS W E u b) : EvS W E (tIfS tc t u) (mIf mc a b) := fun ps pn ad g σ H0 H r D hm e x k =>
  hc.goS hm e x fun a' g' b' H' h1 e1 k1 r1 => by
    subst r1
    cases b' with
    | true => exact ha ps pn ad g' σ H0 H' r D h1 e1 x k
    | false => exact hb ps pn ad g' σ H0 H' r D h1 e1 x k
theorem s_set {i : Nat} {te : TE} {m : M Dat} (h : EvE W E te m) : EvS W E (tAsg te (gName i)) (mSet i m) := fun ps pn ad g σ H0 H r D hm e x k =>
  h.goS hm e x fun a g' b H' h1 e1 k1 r1 => by
    obtain ⟨g2, h2, h3⟩ := bnd_setD h1
    cases h3
    exact k .nx _ rfl ad _ H' (e1.set h2 r1)
theorem g_name {i : Nat} : EvG W (gName i) (setD i) := fun ps pn ad g σ H0 H v d g' Q hm e dv k => k _ (e.set hm dv)
theorem g_nil : EvGs W gNil nilT := fun ps pn ad g σ H0 H v d g' Q hm e dv k => by
  cases dv with
  | nil => cases hm; exact ⟨rfl, k σ e⟩
  | cons a b => cases hm
theorem g_cons {t : TG} {u : TGs} {mt : Dat → M Unit} {mu : List Dat → M Unit} (h1 : EvG W t mt) (h2 : EvGs W u mu) : EvGs W (gCons t u) (consT mt mu) := fun ps pn ad g σ H0 H v d g' Q hm e dv k => by
  cases dv with
  | nil => cases hm
  | cons a b =>
    rcases bnd_some (show bnd (mt _) (fun _ => mu _) g = _ from hm) with ⟨_, g1, q1, q2⟩ | ⟨c, w, g1, q1, q2⟩
    · exact ⟨_, _, rfl, h1 ps pn ad g σ H0 H _ _ g1 _ q1 e a fun σ' e' => h2 ps pn ad g1 σ' H0 H _ _ g' Q q2 e' b k⟩
    · cases q2
theorem g_tup {n : Nat} {t : TGs} {mt : List Dat → M Unit} (h : EvGs W t mt) : EvG W (gTup W.K n t) (tupT n mt) := fun ps pn ad g σ H0 H v d g' Q hm e dv k => by
  cases d <;> try cases hm
  rename_i xs
  simp only [tupT] at hm
  split at hm
  · rename_i hl
    obtain ⟨a, vs, rfl, ha, da⟩ := dd_tup dv
    exact ⟨a, vs, rfl, ha, by rw [da.len]; exact hl, h ps pn ad g σ H0 H vs xs g' Q hm e da k⟩
  · cases hm
theorem s_asg {te : TE} {tg : TG} {m : M Dat} {mt : Dat → M Unit} (ho : ∀ d g r, mt d g = some r → ∃ g', r = .ok () g') (h : EvE W E te m) (hg : EvG W tg mt) : EvS W E (tAsg te tg) (mAsg mt m) := fun ps pn ad g σ H0 H r D hm e x k =>
  h.goS hm e x fun a g' b H' h1 e1 k1 r1 => by
    rcases bnd_some h1 with ⟨_, g2, q1, q2⟩ | ⟨c, w, g2, q1, q2⟩
    · cases q2
      exact hg ps pn ad g' σ H0 H' b a g2 _ q1 e1 r1 fun σ' e' => k .nx _ rfl ad σ' H' e'
    · obtain ⟨_, z⟩ := ho _ _ _ q1
      cases z
theorem s_par {i j : Nat} {ta : TA} {m : M (List Dat)} (h : EvA W E ta m) : EvS W E (tPar i j ta) (mPar i j m) := fun ps pn ad g σ H0 H r D hm e x k =>
  h.goS hm e x fun a g' b H' h1 e1 k1 r1 => by
    split at h1
    · obtain ⟨v, w, rfl, dv, dw⟩ := dds2 r1
      obtain ⟨g2, h2, h3⟩ := bnd_setD h1
      obtain ⟨g3, h4, h5⟩ := bnd_setD h3
      cases h5
      exact ⟨v, w, rfl, k .nx _ rfl ad _ H' ((e1.set h2 dv).set h4 dw)⟩
    · cases h1
theorem s_par3 {i j l : Nat} {ta : TA} {m : M (List Dat)} (h : EvA W E ta m) : EvS W E (tPar3 i j l ta) (mPar3 i j l m) := fun ps pn ad g σ H0 H r D hm e x k =>
  h.goS hm e x fun a g' b H' h1 e1 k1 r1 => by
    split at h1
    · cases r1 with
      | cons a1 t1 =>
        obtain ⟨v, w, rfl, dv, dw⟩ := dds2 t1
        obtain ⟨g2, h2, h3⟩ := bnd_setD h1
        obtain ⟨g3, h4, h5⟩ := bnd_setD h3
        obtain ⟨g4, h6, h7⟩ := bnd_setD h5
        cases h7
        exact ⟨_, v, w, rfl, k .nx _ rfl ad _ H' (((e1.set h2 a1).set h4 dv).set h6 dw)⟩
    · cases h1
end
/-! ### walks -/
structure IterD (W : Wd) (J : It) (pn' : List (Pn W)) (ds : List Dat) : Prop where
  stop : ∀ (i : Nat) (H : Hp), (∀ p ∈ pn', p.1 H) → ds.length ≤ i → J.stop i H
  step : ∀ (i : Nat) (d : Dat) (H : Hp), (∀ p ∈ pn', p.1 H) → ds[i]? = some d → J.go i H ∧ ∀ x H', J.yld i H x H' → Same H H' ∧ DD W H' x d
def EvI (W : Wd) (E : SK) (wi : TI) (m : M (List Dat)) : Prop :=
  ∀ (ps : List Addr) (pn : List (Pn W)) (ad : Nat → Addr) (g : Frm) (σ : L2.St) (H0 H : Hp) (r : R (List Dat)) (Q : It → Hp → Prop), m g = some r → EnvD W ps pn ad g σ H0 H → XO W E ps pn ad g σ H0 H r →
    (∀ ds g', r = .ok ds g' → ∀ J pn' H', EnvD W ps (pn' ++ pn) ad g' σ H0 H' → Kp ad g H g' H' → IterD W J pn' ds → Q J H') → wi σ H Q
def seqO : Dat → Option (List Dat)
  | .lst xs => some xs
  | _ => none
def tupO : Dat → Option (List Dat)
  | .tup _ xs => some xs
  | _ => none
def mSeqO (f : Dat → Option (List Dat)) (a : M Dat) : M (List Dat) := bnd a fun d => lift (f d)
section
variable {W : Wd} {E : SK} {ps : List Addr} {pn pn' : List (Pn W)} {ad : Nat → Addr} {g g1 g2 g' : Frm} {σ : L2.St} {H0 H H1 H2 : Hp}
theorem iter_lst {a : Addr} {ds : List Dat} : IterD W (Itl W.K a) [pinD (.ref a) (.lst ds)] ds where
  stop := fun i H p h => by
    obtain ⟨a', o, xs, ea, ha, da⟩ := dd_lst (p _ List.mem_cons_self)
    cases ea
    exact ⟨xs, .inl (.inr ⟨o, ha⟩), by rw [da.len]; exact h⟩
  step := fun i d H p h => by
    obtain ⟨a', o, xs, ea, ha, da⟩ := dd_lst (p _ List.mem_cons_self)
    cases ea
    obtain ⟨v, hv, dv⟩ := da.getD h
    refine ⟨⟨xs, v, .inl (.inr ⟨o, ha⟩), hv⟩, fun x H' y => ?_⟩
    obtain ⟨rfl, y⟩ := y
    have := y xs (.inl (.inr ⟨o, ha⟩))
    rw [hv] at this
    cases this
    exact ⟨Same.rf _, dv⟩
theorem sqT_inj {K : PySem.W.Frag} {a : Addr} {xs : List V} : True := trivial
theorem iter_tup {a : Addr} {s : Bool} {ds : List Dat} : IterD W (Itt W.K a) [pinD (.ref a) (.tup s ds)] ds where
  stop := fun i H p h => by
    obtain ⟨a', xs, ea, ha, da⟩ := dd_tup (p _ List.mem_cons_self)
    cases ea
    exact ⟨xs, ha, by rw [da.len]; exact h⟩
  step := fun i d H p h => by
    obtain ⟨a', xs, ea, ha, da⟩ := dd_tup (p _ List.mem_cons_self)
    cases ea
    obtain ⟨v, hv, dv⟩ := da.getD h
    refine ⟨⟨xs, v, ha, hv⟩, fun x H' y => ?_⟩
    obtain ⟨rfl, y⟩ := y
    have := y xs ha
    rw [hv] at this
    cases this
    exact ⟨Same.rf _, dv⟩
theorem i_lst {te : TE} {m : M Dat} (h : EvE W E te m) : EvI W E (iList W.K te) (mSeqO seqO m) := fun ps pn ad g σ H0 H r Q hm e x k =>
  h.go hm e x fun d g1 v H1 f1 e1 k1 r1 x1 => by
    obtain ⟨ds, hd, rfl⟩ := lift_some f1
    cases d <;> try cases hd
    obtain ⟨a, o, xs, rfl, ha, da⟩ := dd_lst r1
    exact ⟨a, rfl, ⟨xs, .inl (.inr ⟨o, ha⟩)⟩, k _ _ rfl _ [pinD (.ref a) (.lst ds)] H1 (e1.pinned fun p hp => by rw [List.mem_singleton.mp hp]; exact .lst ha da) k1 iter_lst⟩
theorem i_tup {te : TE} {m : M Dat} (h : EvE W E te m) : EvI W E (iTup W.K te) (mSeqO tupO m) := fun ps pn ad g σ H0 H r Q hm e x k =>
  h.go hm e x fun d g1 v H1 f1 e1 k1 r1 x1 => by
    obtain ⟨ds, hd, rfl⟩ := lift_some f1
    cases d <;> try cases hd
    obtain ⟨a, xs, rfl, ha, da⟩ := dd_tup r1
    exact ⟨a, rfl, ⟨xs, ha⟩, k _ _ rfl _ [pinD (.ref a) (.tup false ds)] H1 (e1.pinned fun p hp => by rw [List.mem_singleton.mp hp]; exact .tup ha (fun e => by cases e) da) k1 iter_tup⟩
/-! ### range, zip, enumerate, items -/
def rgD (lo : Int) (n : Nat) : List Dat := (List.range n).map fun (i : Nat) => Dat.int (lo + (i : Int))
theorem iter_rng {lo : Int} {n : Nat} : IterD W (Itr lo n) [] (rgD lo n) where
  stop := fun i H _ h => by
    have : (rgD lo n).length = n := by simp [rgD]
    rw [this] at h
    exact h
  step := fun i d H _ h => by
    have hi : i < n := by
      have := (List.getElem?_eq_some_iff.mp h).1
      simpa [rgD] using this
    have e : d = .int (lo + (i : Int)) := by
      unfold rgD at h
      rw [List.getElem?_map, List.getElem?_range hi] at h
      exact (Option.some.inj h).symm
    refine ⟨hi, fun x H' y => ?_⟩
    obtain ⟨rfl, rfl⟩ := y
    rw [e]
    exact ⟨Same.rf _, .int _⟩
def rg1O : List Dat → Option (List Dat)
  | [.int j] => if -(2 ^ 62) ≤ j ∧ j < 2 ^ 62 then some (rgD 0 j.toNat) else none
  | _ => none
def rg2O : List Dat → Option (List Dat)
  | [.int i, .int j] => if -(2 ^ 62) ≤ i ∧ i < 2 ^ 62 ∧ -(2 ^ 62) ≤ j ∧ j < 2 ^ 62 then some (rgD i (j - i).toNat) else none
  | _ => none
def mItA (f : List Dat → Option (List Dat)) (a : M (List Dat)) : M (List Dat) := bnd a fun d => lift (f d)
theorem i_rng1 {ta : TA} {m : M (List Dat)} (h : EvA W E ta m) : EvI W E (iRng1 ta) (mItA rg1O m) := fun ps pn ad g σ H0 H r Q hm e x k =>
  h.go hm e x fun d g1 v H1 f1 e1 k1 r1 x1 => by
    obtain ⟨ds, hd, rfl⟩ := lift_some f1
    unfold rg1O at hd
    split at hd
    · split at hd
      · rename_i hb
        cases hd
        obtain ⟨v, rfl, dv⟩ := dds1 r1
        cases dd_int dv
        exact ⟨_, rfl, hb.1, hb.2, k _ _ rfl _ [] H1 e1 k1 iter_rng⟩
      · cases hd
    · cases hd
theorem i_rng2 {ta : TA} {m : M (List Dat)} (h : EvA W E ta m) : EvI W E (iRng2 ta) (mItA rg2O m) := fun ps pn ad g σ H0 H r Q hm e x k =>
  h.go hm e x fun d g1 v H1 f1 e1 k1 r1 x1 => by
    obtain ⟨ds, hd, rfl⟩ := lift_some f1
    unfold rg2O at hd
    split at hd
    · split at hd
      · rename_i hb
        cases hd
        obtain ⟨v, w, rfl, dv, dw⟩ := dds2 r1
        cases dd_int dv
        cases dd_int dw
        exact ⟨_, _, rfl, hb, k _ _ rfl _ [] H1 e1 k1 iter_rng⟩
      · cases hd
    · cases hd
end
/-! ### for -/
def forL (t : Dat → M Unit) (body : M Fl) : List Dat → M Fl
  | [] => ret .nx
  | d :: r => bnd (t d) fun _ => bnd body fun f => match f with
    | .nx | .ct => forL t body r
    | .bk => ret .nx
    | .rt v => ret (.rt v)
def mFor (it : M (List Dat)) (t : Dat → M Unit) (body : M Fl) : M Fl := bnd it fun ds => forL t body ds
section
variable {W : Wd} {E : SK} {ps : List Addr} {pn pn' : List (Pn W)} {ad : Nat → Addr} {g g1 g2 g' : Frm} {σ : L2.St} {H0 H H1 H2 : Hp}
theorem s_for {wi : TI} {tg : TG} {tb : TS} {mi : M (List Dat)} {mt : Dat → M Unit} {mb : M Fl} (ho : ∀ d g r, mt d g = some r → ∃ g', r = .ok () g') (hi : EvI W E wi mi) (hg : EvG W tg mt) (hb : EvS W E tb mb) : EvS W E (tFor wi tg tb) (mFor mi mt mb) := fun ps pn ad g σ H0 H r D hm e x k => by
  rcases bnd_some hm with ⟨ds, g1, h1, h2⟩ | ⟨c, w, g', h1, h2⟩
  · refine hi ps pn ad g σ H0 H _ _ h1 e (fun c w g'' z => by cases z) fun ds' g'' z J pn' H' e' k' it => ?_
    cases z
    refine ⟨fun i m σ H => ∃ ad g, EnvD W ps (pn' ++ pn) ad g σ H0 H ∧ m = ds.length - i ∧ i ≤ ds.length ∧ forL mt mb (ds.drop i) g = some r, ⟨ds.length, ad, g1, e', by omega, Nat.zero_le _, h2⟩, ?_⟩
    rintro i m σ H ⟨ad, g, e, rfl, hle, hr⟩
    have pins : ∀ p ∈ pn', p.1 H := fun p hp => e.pin p (List.mem_append_left _ hp)
    by_cases hlt : i < ds.length
    · rw [List.drop_eq_getElem_cons hlt] at hr
      obtain ⟨go, yld⟩ := it.step i ds[i] H pins (List.getElem?_eq_getElem hlt)
      rcases bnd_some hr with ⟨_, g2, q1, q2⟩ | ⟨c, w, g2, q1, q2⟩
      · refine .inr ⟨go, fun σ' H' => ∃ ad g, EnvD W ps (pn' ++ pn) ad g σ' H0 H' ∧ forL mt mb (ds.drop (i + 1)) g = some r, fun σ' H' ⟨ad', g', e', h'⟩ => ⟨ds.length - (i + 1), by omega, ad', g', e', rfl, by omega, h'⟩, fun v H3 y => ?_⟩
        obtain ⟨s3, d3⟩ := yld v H3 y
        refine hg ps (pn' ++ pn) ad g σ H0 H3 v ds[i] g2 _ q1 (e.same s3) d3 fun σ' e4 => ?_
        rcases bnd_some q2 with ⟨f, g3, q3, q4⟩ | ⟨c, w, g3, q3, q4⟩
        · refine hb ps (pn' ++ pn) ad g2 σ' H0 H3 _ _ q3 e4 (fun c w g'' z => by cases z) fun f' g'' z ad5 σ5 H5 e5 => ?_
          cases z
          cases f with
          | nx => exact ⟨ad5, g3, e5, q4⟩
          | ct => exact ⟨ad5, g3, e5, q4⟩
          | bk => cases q4; exact k .nx _ rfl ad5 σ5 H5 e5.unpin
          | rt d => cases q4; exact k (.rt d) _ rfl ad5 σ5 H5 e5.unpin
        · subst q4
          exact hb ps (pn' ++ pn) ad g2 σ' H0 H3 _ _ q3 e4 (fun c' w' g'' z C dx ad' σ' H' hm' e' v => by cases z; exact x _ _ _ rfl C dx ad' σ' H' hm' e'.unpin v) fun f' g'' z => by cases z
      · obtain ⟨_, z⟩ := ho _ _ _ q1
        cases z
    · rw [List.drop_of_length_le (by omega)] at hr
      cases hr
      exact .inl ⟨it.stop i H pins (by omega), k .nx _ rfl ad σ H e.unpin⟩
  · subst h2
    exact hi ps pn ad g σ H0 H _ _ h1 e (fun c' w' g'' z C dx H' hm' e' k' v => by cases z; exact x _ _ _ rfl C dx ad σ H' hm' e' v) fun ds' g'' z => by cases z
end
/-! ### while -/
def whileL (c : M Bool) (body : M Fl) : Nat → M Fl
  | 0 => fun _ => none
  | n + 1 => bnd c fun b => if b = true then bnd body fun f => match f with
      | .nx | .ct => whileL c body n
      | .bk => ret .nx
      | .rt v => ret (.rt v)
    else ret .nx
open Classical in
/-- as far as it goes -/
noncomputable def mWhile (c : M Bool) (body : M Fl) : M Fl := fun g => if h : ∃ n r, whileL c body n g = some r then some (Classical.choose (Classical.choose_spec h)) else none
theorem bnd_mono {α β : Type} {m : M α} {f f' : α → M β} {g : Frm} {r : R β} (h : bnd m f g = some r) (hf : ∀ a g' r, f a g' = some r → f' a g' = some r) : bnd m f' g = some r := by
  unfold bnd at h ⊢
  split at h
  · exact hf _ _ _ h
  · exact h
  · cases h
theorem whileL_mono {c : M Bool} {body : M Fl} : ∀ {n : Nat} {g : Frm} {r : R Fl}, whileL c body n g = some r → ∀ m, n ≤ m → whileL c body m g = some r
  | 0, _, _, h, _, _ => by cases h
  | n + 1, g, r, h, m, hm => by
    obtain ⟨m', rfl⟩ : ∃ m', m = m' + 1 := ⟨m - 1, by omega⟩
    refine bnd_mono h fun b g1 r1 h1 => ?_
    cases b with
    | false => exact h1
    | true =>
      refine bnd_mono (show bnd body _ g1 = some r1 from h1) fun f g2 r2 h2 => ?_
      cases f with
      | nx => exact whileL_mono h2 m' (by omega)
      | ct => exact whileL_mono h2 m' (by omega)
      | bk => exact h2
      | rt v => exact h2
theorem mWhile_some {c : M Bool} {body : M Fl} {g : Frm} {r : R Fl} (h : mWhile c body g = some r) : ∃ n, whileL c body n g = some r := by
  unfold mWhile at h
  split at h
  · rename_i hx
    cases h
    exact ⟨_, Classical.choose_spec (Classical.choose_spec hx)⟩
  · cases h
theorem mWhile_of {c : M Bool} {body : M Fl} {g : Frm} {r : R Fl} {n : Nat} (h : whileL c body n g = some r) : mWhile c body g = some r := by
  have hx : ∃ n r, whileL c body n g = some r := ⟨n, r, h⟩
  have e : mWhile c body g = some (Classical.choose (Classical.choose_spec hx)) := by
    unfold mWhile
    rw [dif_pos hx]
  obtain ⟨k, hk⟩ := mWhile_some e
  have h1 := whileL_mono h (max n k) (Nat.le_max_left _ _)
  have h2 := whileL_mono hk (max n k) (Nat.le_max_right _ _)
  rw [h1] at h2
  rw [e]
  exact h2.symm
section
variable {W : Wd} {E : SK}
theorem s_while {tc : TT} {tb : TS} {mc : M Bool} {mb : M Fl} (hc : EvT W E tc mc) (hb : EvS W E tb mb) : EvS W E (tWhile tc tb) (mWhile mc mb) := fun ps pn ad g σ H0 H r D hm e x k => by
  obtain ⟨n, hn⟩ := mWhile_some hm
  refine ⟨fun m σ H => ∃ ad g, EnvD W ps pn ad g σ H0 H ∧ whileL mc mb m g = some r, ⟨n, ad, g, e, hn⟩, ?_⟩
  rintro m σ H ⟨ad, g, e, hr⟩
  cases m with
  | zero => cases hr
  | succ m =>
    refine hc.goS hr e x fun b g1 b' H1 h1 e1 k1 r1 => ?_
    subst r1
    cases b' with
    | false =>
      cases h1
      exact k .nx _ rfl ad σ H1 e1
    | true =>
      refine ⟨fun σ' H' => ∃ ad g, EnvD W ps pn ad g σ' H0 H' ∧ whileL mc mb m g = some r, fun σ' H' q => ⟨m, Nat.lt_succ_self m, q⟩, ?_⟩
      rcases bnd_some (show bnd mb _ g1 = some r from h1) with ⟨f, g3, q3, q4⟩ | ⟨c, w, g3, q3, q4⟩
      · refine hb ps pn ad g1 σ H0 H1 _ _ q3 e1 (fun c w g'' z => by cases z) fun f' g'' z ad5 σ5 H5 e5 => ?_
        cases z
        cases f with
        | nx => exact ⟨ad5, g3, e5, q4⟩
        | ct => exact ⟨ad5, g3, e5, q4⟩
        | bk => cases q4; exact k .nx _ rfl ad5 σ5 H5 e5
        | rt d => cases q4; exact k (.rt d) _ rfl ad5 σ5 H5 e5
      · subst q4
        exact hb ps pn ad g1 σ H0 H1 _ _ q3 e1 (fun c' w' g'' z => by cases z; exact x _ _ _ rfl) fun f' g'' z => by cases z
end
end DL

set_option Elab.async false
set_option linter.all false
set_option maxRecDepth 100000
set_option maxHeartbeats 4000000
/-! D4: comprehensions. -/
namespace DL
open PySem PySem.Spec PyProof.Rows L2 GX
def wipeG (g : Frm) : List Nat → Frm
  | [] => g
  | v :: vs => (wipeG g vs).set v .no
/-- the slots vs as they were in g -/
def backG (g g' : Frm) : List Nat → Frm
  | [] => g'
  | v :: vs => (backG g g' vs).set v (g.getD v .no)
def isM : Sl → Bool
  | .m _ _ => true
  | _ => false
def isS : Sl → Bool
  | .s _ => true
  | _ => false
def noM (g : Frm) (vs : List Nat) : Bool := vs.all fun v => !isM (g.getD v .no) && !isS (g.getD v .no)
theorem wipeG_len (g : Frm) : ∀ vs, (wipeG g vs).length = g.length
  | [] => rfl
  | v :: vs => by unfold wipeG; rw [List.length_set, wipeG_len g vs]
theorem backG_len (g g' : Frm) : ∀ vs, (backG g g' vs).length = g'.length
  | [] => rfl
  | v :: vs => by unfold backG; rw [List.length_set, backG_len g g' vs]
theorem wipeG_some0 {g : Frm} {i : Nat} {x : Sl} (hx : x ≠ .no) : ∀ {vs : List Nat}, (wipeG g vs)[i]? = some x → g[i]? = some x ∧ i ∉ vs
  | [], h => ⟨h, by simp⟩
  | v :: vs, h => by
    unfold wipeG at h
    by_cases e : v = i
    · subst e
      rw [List.getElem?_set] at h
      split at h
      · split at h
        · cases h; exact absurd rfl hx
        · cases h
      · rename_i n; exact absurd rfl n
    · rw [List.getElem?_set_ne e] at h
      obtain ⟨h1, h2⟩ := wipeG_some0 hx h
      exact ⟨h1, fun z => (List.mem_cons.mp z).elim (fun q => e q.symm) h2⟩
theorem wipeG_some {g : Frm} {i : Nat} {x : Sl} {vs : List Nat} (h : (wipeG g vs)[i]? = some x) (hx : x ≠ .no) : g[i]? = some x ∧ i ∉ vs := wipeG_some0 hx h
theorem wipeG_out {g : Frm} {i : Nat} : ∀ {vs : List Nat}, i ∉ vs → (wipeG g vs)[i]? = g[i]?
  | [], _ => rfl
  | v :: vs, h => by
    unfold wipeG
    rw [List.getElem?_set_ne (fun e => h (by rw [e]; exact List.mem_cons_self))]
    exact wipeG_out fun z => h (List.mem_cons_of_mem _ z)
theorem backG_in {g g' : Frm} {i : Nat} (hi : i < g'.length) : ∀ {vs : List Nat}, i ∈ vs → (backG g g' vs)[i]? = some (g.getD i .no)
  | v :: vs, h => by
    unfold backG
    by_cases e : v = i
    · subst e
      rw [List.getElem?_set_self (by rw [backG_len]; exact hi)]
    · rw [List.getElem?_set_ne e]
      exact backG_in hi ((List.mem_cons.mp h).elim (fun q => absurd q.symm e) id)
theorem backG_out {g g' : Frm} {i : Nat} : ∀ {vs : List Nat}, i ∉ vs → (backG g g' vs)[i]? = g'[i]?
  | [], _ => rfl
  | v :: vs, h => by
    unfold backG
    rw [List.getElem?_set_ne (fun e => h (by rw [e]; exact List.mem_cons_self))]
    exact backG_out fun z => h (List.mem_cons_of_mem _ z)
theorem wipe_in {σ : L2.St} {i : Nat} : ∀ {vs : List Nat}, i ∉ vs → (wipe σ vs)[i]? = σ[i]? := fun h => wipe_out h
/-- only what is told without an error -/
def noEx {α : Type} (m : M α) : M α := fun g => match m g with
  | some (.ok a g') => some (.ok a g')
  | _ => none
theorem noEx_some {α : Type} {m : M α} {g : Frm} {r : R α} (h : noEx m g = some r) : ∃ a g', r = .ok a g' ∧ m g = some (.ok a g') := by
  unfold noEx at h
  split at h
  · rename_i a g' e
    cases h
    exact ⟨a, g', rfl, e⟩
  · cases h
/-- the turns: g0 the frame with the block's own names wiped -/
def compL (vs : List Nat) (t : Dat → M Unit) (mt : M Bool) (me : M Dat) : List Dat → List Dat → M (List Dat)
  | [], acc => ret acc
  | d :: r, acc => fun g => bnd (t d) (fun _ => bnd (noEx mt) fun b => if b = true then bnd (noEx me) fun y => if acc.length < sizeLine then (fun g2 => compL vs t mt me r (acc ++ [y]) (wipeG g2 vs)) else fun _ => none else fun g2 => compL vs t mt me r acc (wipeG g2 vs)) g
def mLcN (vs : List Nat) (it : M (List Dat)) (t : Dat → M Unit) (mt : M Bool) (me : M Dat) : M MO := bnd it fun ds g => if noM g vs = true then match compL vs t mt me ds [] (wipeG g vs) with
  | some (.ok xs g') => some (.ok (.lst xs) (backG g g' vs))
  | _ => none
  else none
def moD : MO → Option Dat
  | .lst xs => some (.lst xs)
  | .dic kvs => some (.dic kvs)
  | .ins _ _ => none
/-- made, then left as it is -/
def mFzN (m : M MO) : M Dat := bnd m fun o => lift (moD o)
def mLc (vs : List Nat) (it : M (List Dat)) (t : Dat → M Unit) (mt : M Bool) (me : M Dat) : M Dat := mFzN (mLcN vs it t mt me)
def putDk (kvs : List (Key × Dat)) (k : Key) (v : Dat) : List (Key × Dat) := if (kvs.any fun kv => decide (kv.1 = k)) = true then kvs.map (fun kv => if kv.1 = k then (kv.1, v) else kv) else kvs ++ [(k, v)]
def keyO : Dat → Option Key
  | .int i => some (Sum.inl i)
  | .str x => some (Sum.inr x)
  | _ => none
def compK (vs : List Nat) (t : Dat → M Unit) (mt : M Bool) (mk mv : M Dat) : List Dat → List (Key × Dat) → M (List (Key × Dat))
  | [], acc => ret acc
  | d :: r, acc => fun g => bnd (t d) (fun _ => bnd (noEx mt) fun b => if b = true then bnd (noEx mk) fun y => bnd (noEx mv) fun z => match keyO y with
      | some k => if acc.length < sizeLine then (fun g2 => compK vs t mt mk mv r (putDk acc k z) (wipeG g2 vs)) else fun _ => none
      | none => fun _ => none
    else fun g2 => compK vs t mt mk mv r acc (wipeG g2 vs)) g
def mDcN (vs : List Nat) (it : M (List Dat)) (t : Dat → M Unit) (mt : M Bool) (mk mv : M Dat) : M MO := bnd it fun ds g => if noM g vs = true then match compK vs t mt mk mv ds [] (wipeG g vs) with
  | some (.ok xs g') => some (.ok (.dic xs) (backG g g' vs))
  | _ => none
  else none
/-- a new thing that may change -/
def EvN (W : Wd) (E : SK) (te : TE) (m : M MO) : Prop :=
  ∀ (ps : List Addr) (pn : List (Pn W)) (ad : Nat → Addr) (g : Frm) (σ : L2.St) (H0 H : Hp) (r : R MO) (Q : VK), m g = some r → EnvD W ps pn ad g σ H0 H → XO W E ps pn ad g σ H0 H r →
    (∀ o g', r = .ok o g' → ∀ p H', EnvD W ps pn ad g' σ H0 H' → Kp ad g H g' H' → H p = none → H0 p = none → (∀ i, Own g' i → ad i ≠ p) → MOk W H' p o → Q (.ref p) H') → te σ H Q
section
variable {W : Wd} {E : SK} {ps : List Addr} {pn pn' : List (Pn W)} {ad : Nat → Addr} {g g1 g2 g' : Frm} {σ : L2.St} {H0 H H1 H2 : Hp} {vs : List Nat}
theorem noM_at (h : noM g vs = true) {i : Nat} (hi : i ∈ vs) {b : Bool} {o : MO} : g[i]? ≠ some (Sl.m b o) := fun e => by
  have := List.all_eq_true.mp h i hi
  rw [List.getD_eq_getElem?_getD, e] at this
  cases this
theorem noM_s (h : noM g vs = true) {i : Nat} (hi : i ∈ vs) {x : Dat} : g[i]? ≠ some (Sl.s x) := fun e => by
  have := List.all_eq_true.mp h i hi
  rw [List.getD_eq_getElem?_getD, e] at this
  cases this
theorem EnvD.wipe (e : EnvD W ps pn ad g σ H0 H) : EnvD W ps pn ad (wipeG g vs) (L2.wipe σ vs) H0 H := by
  refine ⟨by rw [L2.wipe_length, wipeG_len, e.len], fun i x h => ?_, fun i b o h => ?_, fun i b o h => e.pp i b o (wipeG_some h (fun z => nomatch z)).1, fun i x h => ?_, fun i j hi hj => ?_, e.ext, e.pin, e.pex⟩
  · obtain ⟨h1, h2⟩ := wipeG_some h (fun z => nomatch z)
    rw [wipe_in h2]
    exact e.sd i x h1
  · obtain ⟨h1, h2⟩ := wipeG_some h (fun z => nomatch z)
    rw [wipe_in h2]
    exact e.sm i b o h1
  · obtain ⟨h1, h2⟩ := wipeG_some h (fun z => nomatch z)
    rw [wipe_in h2]
    exact e.ss i x h1
  · obtain ⟨b, o, h1⟩ := hi
    obtain ⟨b', o', h2⟩ := hj
    exact e.inj i j ⟨b, o, (wipeG_some h1 (fun z => nomatch z)).1⟩ ⟨b', o', (wipeG_some h2 (fun z => nomatch z)).1⟩
/-- behind the block -/
theorem EnvD.back (e : EnvD W ps pn ad g σ H0 H) (hn : noM g vs = true) (m : MoD W H H1) (e' : EnvD W ps pn ad g' (L2.wipe σ vs) H0 H1) (hw : ∀ i ∈ vs, ∀ b o, g'[i]? ≠ some (Sl.m b o)) : EnvD W ps pn ad (backG g g' vs) σ H0 H1 := by
  have hl : g'.length = g.length := by rw [← e'.len, L2.wipe_length, e.len]
  have inn : ∀ {i : Nat} {x : Sl}, (backG g g' vs)[i]? = some x → x ≠ .no → (i ∈ vs ∧ g[i]? = some x) ∨ (i ∉ vs ∧ g'[i]? = some x) := fun {i x} h n => by
    by_cases hi : i ∈ vs
    · refine .inl ⟨hi, ?_⟩
      have hlt := (List.getElem?_eq_some_iff.mp h).1
      rw [backG_len] at hlt
      rw [backG_in hlt hi] at h
      have h3 : i < g.length := by omega
      rw [List.getD_eq_getElem?_getD, List.getElem?_eq_getElem h3] at h
      rw [List.getElem?_eq_getElem h3]
      exact h
    · rw [backG_out hi] at h
      exact .inr ⟨hi, h⟩
  have own : ∀ {i : Nat} {b : Bool} {o : MO}, (backG g g' vs)[i]? = some (Sl.m b o) → i ∉ vs ∧ g'[i]? = some (Sl.m b o) := fun {i b o} h => by
    rcases inn h (fun z => nomatch z) with ⟨h1, h2⟩ | h
    · exact absurd h2 (noM_at hn h1)
    · exact h
  refine ⟨by rw [backG_len, hl, e.len], fun i x h => ?_, fun i b o h => ?_, fun i b o h => e'.pp i b o (own h).2, fun i x h => ?_, fun i j hi hj => ?_, e'.ext, e'.pin, e'.pex⟩
  · rcases inn h (fun z => nomatch z) with ⟨_, h2⟩ | ⟨h1, h2⟩
    · obtain ⟨v, q1, q2⟩ := e.sd i x h2
      exact ⟨v, q1, q2.mo m⟩
    · obtain ⟨v, q1, q2⟩ := e'.sd i x h2
      rw [wipe_in h1] at q1
      exact ⟨v, q1, q2⟩
  · obtain ⟨h1, h2⟩ := own h
    obtain ⟨q1, q2⟩ := e'.sm i b o h2
    rw [wipe_in h1] at q1
    exact ⟨q1, q2⟩
  · rcases inn h (fun z => nomatch z) with ⟨h1, h2⟩ | ⟨h1, h2⟩
    · exact absurd h2 (noM_s hn h1)
    · obtain ⟨q1, q2⟩ := e'.ss i x h2
      rw [wipe_in h1] at q1
      exact ⟨q1, q2⟩
  · obtain ⟨b, o, h1⟩ := hi
    obtain ⟨b', o', h2⟩ := hj
    exact e'.inj i j ⟨b, o, (own h1).2⟩ ⟨b', o', (own h2).2⟩
theorem EnvD.fresh (e : EnvD W ps pn ad g σ H0 H) {a : Addr} (h : H a = none) : H0 a = none := by
  cases q : H0 a with
  | none => rfl
  | some o =>
    by_cases hp : a ∈ ps
    · obtain ⟨u, hu⟩ := e.pex a hp
      rw [h] at hu
      cases hu
    · rw [e.ext a o hp q] at h
      cases h
theorem EnvD.ownNe (e : EnvD W ps pn ad g σ H0 H) {a : Addr} (h : H a = none) : ∀ i, Own g i → ad i ≠ a := fun i hi z => by
  obtain ⟨o, ho, _⟩ := e.ownAt hi
  rw [z, h] at ho
  cases ho
/-- a thing of no slot, which may change, is written -/
theorem EnvD.over (e : EnvD W ps pn ad g σ H0 H) {D : Addr} {u o : HO} (h0 : H0 D = none) (hn : ∀ i, Own g i → ad i ≠ D) (hu : H D = some u) (hi : ¬ ImmD W u) : EnvD W ps pn ad g σ H0 (upd H D o) := by
  have m : MoD W H (upd H D o) := fun a w i q => by
    rw [upd_ne (fun z => by subst z; rw [hu] at q; cases q; exact hi i)]
    exact q
  refine ⟨e.len, fun i x h => let ⟨v, h1, h2⟩ := e.sd i x h; ⟨v, h1, h2.mo m⟩, fun i b w h => ?_, e.pp, fun i x h => let ⟨h1, h2, h3⟩ := e.ss i x h; ⟨h1, h2.mo m, h3⟩, e.inj, fun a w n q => ?_, fun p hp => p.2 _ _ m (e.pin p hp), fun a ha => ?_⟩
  · obtain ⟨h1, h2⟩ := e.sm i b w h
    exact ⟨h1, h2.keep m fun v q => by rw [upd_ne (hn i ⟨b, w, h⟩)]; exact q⟩
  · rw [upd_ne (fun z => by subst z; rw [h0] at q; cases q)]
    exact e.ext a w n q
  · by_cases hd : a = D
    · subst hd; exact ⟨o, upd_same⟩
    · rw [upd_ne hd]; exact e.pex a ha
structure KD (D : Addr) (ad : Nat → Addr) (g : Frm) (H : Hp) (g' : Frm) (H' : Hp) : Prop where
  keep : ∀ a o, a ≠ D → (∀ i, Own g i → a ≠ ad i) → H a = some o → H' a = some o
  own : ∀ i, Own g' i → Own g i
  old : ∀ a o, H a = some o → ∃ o', H' a = some o'
theorem Kp.kd {D : Addr} (k : Kp ad g H g1 H1) : KD D ad g H g1 H1 := ⟨fun a o _ n h => k.keep a o n h, k.own, k.old⟩
theorem KD.trans {D : Addr} (a : KD D ad g H g1 H1) (b : KD D ad g1 H1 g2 H2) : KD D ad g H g2 H2 :=
  ⟨fun c o n m h => b.keep c o n (fun i hi => m i (a.own i hi)) (a.keep c o n m h), fun i h => a.own i (b.own i h), fun c o h => let ⟨o1, h1⟩ := a.old c o h; b.old c o1 h1⟩
theorem KD.put {D : Addr} {o : HO} : KD D ad g H g (upd H D o) := ⟨fun a u n _ h => by rw [upd_ne n]; exact h, fun _ h => h, fun a u h => by
  by_cases e : a = D
  · subst e; exact ⟨o, upd_same⟩
  · exact ⟨u, by rw [upd_ne e]; exact h⟩⟩
theorem KD.wipe {D : Addr} : KD D ad g H (wipeG g vs) H := ⟨fun a u n _ h => h, fun i ⟨b, o, h⟩ => ⟨b, o, (wipeG_some h (fun z => nomatch z)).1⟩, fun a u h => ⟨u, h⟩⟩
theorem wipeG_noM (g : Frm) {i : Nat} (hi : i ∈ vs) {b : Bool} {o : MO} : (wipeG g vs)[i]? ≠ some (Sl.m b o) := fun h => (wipeG_some h (fun z => nomatch z)).2 hi
/-- a target whose stores lie in vs alone -/
def EvGw (W : Wd) (vs : List Nat) (tg : TG) (mt : Dat → M Unit) : Prop :=
  ∀ (d : Dat) (g : Frm) (r : R Unit), mt d g = some r → ∃ g', r = .ok () g' ∧ wipeG g' vs = wipeG g vs ∧ (∀ i, Own g' i → Own g i) ∧ ∀ (ps : List Addr) (pn : List (Pn W)) (ad : Nat → Addr) (σ : L2.St) (H0 H : Hp) (v : V) (Q : L2.St → Hp → Prop),
    EnvD W ps pn ad g σ H0 H → DD W H v d → (∀ σ', EnvD W ps pn ad g' σ' H0 H → L2.wipe σ' vs = L2.wipe σ vs → Q σ' H) → tg v σ H Q
def EvGws (W : Wd) (vs : List Nat) (tg : TGs) (mt : List Dat → M Unit) : Prop :=
  ∀ (d : List Dat) (g : Frm) (r : R Unit), mt d g = some r → ∃ g', r = .ok () g' ∧ wipeG g' vs = wipeG g vs ∧ (∀ i, Own g' i → Own g i) ∧ ∀ (ps : List Addr) (pn : List (Pn W)) (ad : Nat → Addr) (σ : L2.St) (H0 H : Hp) (v : List V) (Q : L2.St → Hp → Prop),
    EnvD W ps pn ad g σ H0 H → DDs W H v d → (∀ σ', EnvD W ps pn ad g' σ' H0 H → L2.wipe σ' vs = L2.wipe σ vs → Q σ' H) → tg v σ H Q
theorem wipe_set {σ : L2.St} {i : Nat} {x : Option V} : ∀ {vs : List Nat}, i ∈ vs → L2.wipe (σ.set i x) vs = L2.wipe σ vs
  | v :: vs, h => by
    by_cases e : i = v
    · subst e
      show (L2.wipe (σ.set i x) vs).set i none = (L2.wipe σ vs).set i none
      by_cases hm : i ∈ vs
      · rw [wipe_set hm]
      · apply List.ext_getElem?
        intro j
        by_cases hj : i = j
        · subst hj
          rw [List.getElem?_set, List.getElem?_set, L2.wipe_length, L2.wipe_length, List.length_set, if_pos rfl, if_pos rfl]
        · rw [List.getElem?_set_ne hj, List.getElem?_set_ne hj]
          have go : ∀ vs : List Nat, (L2.wipe (σ.set i x) vs)[j]? = (L2.wipe σ vs)[j]? := by
            intro vs
            induction vs with
            | nil => exact List.getElem?_set_ne hj
            | cons w ws ih =>
              show ((L2.wipe (σ.set i x) ws).set w none)[j]? = ((L2.wipe σ ws).set w none)[j]?
              by_cases hw : w = j
              · subst hw
                rw [List.getElem?_set, List.getElem?_set, L2.wipe_length, L2.wipe_length, List.length_set, if_pos rfl, if_pos rfl]
              · rw [List.getElem?_set_ne hw, List.getElem?_set_ne hw]
                exact ih
          exact go vs
    · show (L2.wipe (σ.set i x) vs).set v none = (L2.wipe σ vs).set v none
      rw [wipe_set ((List.mem_cons.mp h).elim (fun q => absurd q e) id)]
theorem wipeG_set {g : Frm} {i : Nat} {x : Sl} : ∀ {vs : List Nat}, i ∈ vs → wipeG (g.set i x) vs = wipeG g vs
  | v :: vs, h => by
    by_cases e : i = v
    · subst e
      show (wipeG (g.set i x) vs).set i .no = (wipeG g vs).set i .no
      apply List.ext_getElem?
      intro j
      by_cases hj : i = j
      · subst hj
        rw [List.getElem?_set, List.getElem?_set, wipeG_len, wipeG_len, List.length_set, if_pos rfl, if_pos rfl]
      · rw [List.getElem?_set_ne hj, List.getElem?_set_ne hj]
        have go : ∀ vs : List Nat, (wipeG (g.set i x) vs)[j]? = (wipeG g vs)[j]? := by
          intro vs
          induction vs with
          | nil => exact List.getElem?_set_ne hj
          | cons w ws ih =>
            show ((wipeG (g.set i x) ws).set w .no)[j]? = ((wipeG g ws).set w .no)[j]?
            by_cases hw : w = j
            · subst hw
              rw [List.getElem?_set, List.getElem?_set, wipeG_len, wipeG_len, List.length_set, if_pos rfl, if_pos rfl]
            · rw [List.getElem?_set_ne hw, List.getElem?_set_ne hw]
              exact ih
        exact go vs
    · show (wipeG (g.set i x) vs).set v .no = (wipeG g vs).set v .no
      rw [wipeG_set ((List.mem_cons.mp h).elim (fun q => absurd q e) id)]
theorem gw_name {i : Nat} (h : i ∈ vs) : EvGw W vs (gName i) (setD i) := fun d g r hm => by
  obtain ⟨g', rfl⟩ := setD_ok hm
  have e : g' = g.set i (.d d) ∧ i < g.length := by
    have hm := hm
    unfold setD at hm
    split at hm
    · cases hm
    · cases hm
    · rename_i hs
      cases hm
      exact ⟨rfl, (List.getElem?_eq_some_iff.mp hs).1⟩
    · cases hm
  refine ⟨g', rfl, by rw [e.1]; exact wipeG_set h, fun j ⟨b, o, q⟩ => ?_, fun ps pn ad σ H0 H v Q en dv k => k _ (en.set hm dv) (wipe_set h)⟩
  rw [e.1] at q
  by_cases hj : i = j
  · subst hj
    rw [List.getElem?_set_self e.2] at q
    cases q
  · rw [List.getElem?_set_ne hj] at q
    exact ⟨b, o, q⟩
theorem gw_nil : EvGws W vs gNil nilT := fun d g r hm => by
  cases d with
  | nil =>
    cases hm
    refine ⟨g, rfl, rfl, fun _ h => h, fun ps pn ad σ H0 H v Q en dv k => ?_⟩
    cases dv
    exact ⟨rfl, k σ en rfl⟩
  | cons a b => cases hm
theorem gw_cons {t : TG} {u : TGs} {mt : Dat → M Unit} {mu : List Dat → M Unit} (h1 : EvGw W vs t mt) (h2 : EvGws W vs u mu) : EvGws W vs (gCons t u) (consT mt mu) := fun d g r hm => by
  cases d with
  | nil => cases hm
  | cons a b =>
    rcases bnd_some (show bnd (mt a) (fun _ => mu b) g = _ from hm) with ⟨_, g1, q1, q2⟩ | ⟨c, w, g1, q1, q2⟩
    · obtain ⟨g1', e1, w1, o1, k1⟩ := h1 _ _ _ q1
      cases e1
      obtain ⟨g2, e2, w2, o2, k2⟩ := h2 _ _ _ q2
      subst e2
      refine ⟨g2, rfl, w2.trans w1, fun i h => o1 i (o2 i h), fun ps pn ad σ H0 H v Q en dv k => ?_⟩
      cases dv with
      | cons x y => exact ⟨_, _, rfl, k1 ps pn ad σ H0 H _ _ en x fun σ' e' ws => k2 ps pn ad σ' H0 H _ _ e' y fun σ2 e3 ws2 => k σ2 e3 (ws2.trans ws)⟩
    · obtain ⟨g1', e1, _⟩ := h1 _ _ _ q1
      cases e1
theorem gw_tup {n : Nat} {t : TGs} {mt : List Dat → M Unit} (h : EvGws W vs t mt) : EvGw W vs (gTup W.K n t) (tupT n mt) := fun d g r hm => by
  cases d <;> try cases hm
  rename_i xs
  simp only [tupT] at hm
  split at hm
  · rename_i hl
    obtain ⟨g', e, w, o, k1⟩ := h _ _ _ hm
    refine ⟨g', e, w, o, fun ps pn ad σ H0 H v Q en dv k => ?_⟩
    obtain ⟨a, vs', rfl, ha, da⟩ := dd_tup dv
    exact ⟨a, vs', rfl, ha, by rw [da.len]; exact hl, k1 ps pn ad σ H0 H _ Q en da k⟩
  · cases hm
def E0' : SK := fun _ _ _ _ => False
theorem wipe_wipe {σ : L2.St} : ∀ vs ws : List Nat, (∀ i ∈ ws, i ∈ vs) → L2.wipe (L2.wipe σ ws) vs = L2.wipe σ vs
  | vs, [], _ => rfl
  | vs, w :: ws, h => by
    show L2.wipe ((L2.wipe σ ws).set w none) vs = _
    rw [wipe_set (h w List.mem_cons_self)]
    exact wipe_wipe vs ws fun i hi => h i (List.mem_cons_of_mem _ hi)
theorem noEx_go {α : Type} {m : M α} {β : Type} {f : α → M β} {r : R β} (h : bnd (noEx m) f g = some r) : ∃ a g', m g = some (.ok a g') ∧ f a g' = some r := by
  rcases bnd_some h with ⟨a, g', h1, h2⟩ | ⟨c, w, g', h1, h2⟩
  · obtain ⟨a', g'', e, h3⟩ := noEx_some h1
    cases e
    exact ⟨a, g', h3, h2⟩
  · obtain ⟨a', g'', e, h3⟩ := noEx_some h1
    cases e
theorem KD.mo (e1 : EnvD W ps pn ad g1 σ H0 H1) {D : Addr} (hD : H1 D = none) (kd : KD D ad g1 H1 g2 H) : MoD W H1 H := by
  have go : ∀ a w, ImmD W w → H1 a = some w → a ≠ D ∧ H a = some w := fun a w i q => by
    have na : a ≠ D := fun z => by rw [z, hD] at q; cases q
    refine ⟨na, kd.keep a w na (fun j hj z => ?_) q⟩
    subst z
    obtain ⟨w', h', n'⟩ := e1.ownAt hj
    rw [q] at h'
    cases h'
    exact n' i
  exact fun a w i q => (go a w i q).2
theorem back_own {gi : Frm} (hn : noM g1 vs = true) (hl : gi.length = g1.length) (own : ∀ i, Own gi i → Own g1 i) (j : Nat) (h : Own (backG g1 gi vs) j) : Own g1 j := by
  obtain ⟨b, w, q⟩ := h
  by_cases hj : j ∈ vs
  · have hlt2 := (List.getElem?_eq_some_iff.mp q).1
    rw [backG_len] at hlt2
    rw [backG_in hlt2 hj] at q
    have h3 : j < g1.length := by omega
    rw [List.getD_eq_getElem?_getD, List.getElem?_eq_getElem h3] at q
    exact ⟨b, w, by rw [List.getElem?_eq_getElem h3]; exact q⟩
  · rw [backG_out hj] at q
    exact own j ⟨b, w, q⟩
/-- [e for t in it if c] -/
theorem en_lc {E : SK} {wi : TI} {tg : TG} {tt : TT} {te : TE} {mi : M (List Dat)} {mt : Dat → M Unit} {mc : M Bool} {me : M Dat} (hi : EvI W E wi mi) (hg : EvGw W vs tg mt) (hc : EvT W E0' tt mc) (he : EvE W E0' te me) :
    EvN W E (tLc wi tg tt te vs) (mLcN vs mi mt mc me) := fun ps pn ad g σ H0 H r Q hm e x k => by
  rcases bnd_some hm with ⟨ds, g1, h1, h2⟩ | ⟨c, w, g', h1, h2⟩
  · split at h2
    · rename_i hnM
      split at h2
      · rename_i xs gE hE
        cases h2
        refine hi ps pn ad g σ H0 H _ _ h1 e (fun c w g'' z => by cases z) fun ds' g'' z J pn' H1 e1 k1 it => ?_
        cases z
        intro D hD
        have hD0 : H0 D = none := e1.fresh hD
        have hDo : ∀ i, Own g1 i → ad i ≠ D := e1.ownNe hD
        have hDs : H D = none := k1.none hD
        have eW : EnvD W ps (pn' ++ pn) ad (wipeG g1 vs) (L2.wipe σ vs) H0 (upd H1 D (.lst [])) := (e1.same (Same.new hD)).wipe
        refine ⟨fun i m H => ∃ gi accV acc, EnvD W ps (pn' ++ pn) ad gi (L2.wipe σ vs) H0 H ∧ m = ds.length - i ∧ i ≤ ds.length ∧ H D = some (.lst accV) ∧ DDs W H accV acc ∧ compL vs mt mc me (ds.drop i) acc gi = some (.ok xs gE) ∧ KD D ad g1 H1 gi H ∧ (∀ i ∈ vs, ∀ b o, gi[i]? ≠ some (Sl.m b o)),
          ⟨ds.length, wipeG g1 vs, [], [], eW, by omega, Nat.zero_le _, upd_same, .nil, hE, (KD.put (o := .lst [])).trans KD.wipe, fun i hi b o => wipeG_noM g1 hi⟩, ?_⟩
        rintro i m H ⟨gi, accV, acc, ei, rfl, hle, hDi, da, hr, kd, hn⟩
        have pins : ∀ p ∈ pn', p.1 H := fun p hp => ei.pin p (List.mem_append_left _ hp)
        by_cases hlt : i < ds.length
        · rw [List.drop_eq_getElem_cons hlt] at hr
          obtain ⟨go, yld⟩ := it.step i ds[i] H pins (List.getElem?_eq_getElem hlt)
          refine .inr ⟨go, fun H' => ∃ gi accV acc, EnvD W ps (pn' ++ pn) ad gi (L2.wipe σ vs) H0 H' ∧ H' D = some (.lst accV) ∧ DDs W H' accV acc ∧ compL vs mt mc me (ds.drop (i + 1)) acc gi = some (.ok xs gE) ∧ KD D ad g1 H1 gi H' ∧ (∀ i ∈ vs, ∀ b o, gi[i]? ≠ some (Sl.m b o)),
            fun H' ⟨gi', accV', acc', q1, q2, q3, q4, q5, q6⟩ => ⟨ds.length - (i + 1), by omega, gi', accV', acc', q1, rfl, by omega, q2, q3, q4, q5, q6⟩, fun v H3 y => ?_⟩
          obtain ⟨s3, d3⟩ := yld v H3 y
          rcases bnd_some (show bnd (mt ds[i]) _ gi = _ from hr) with ⟨_, g2, q1, q2⟩ | ⟨c, w, g2, q1, q2⟩
          · obtain ⟨g2', e2, w2, o2, t2⟩ := hg _ _ _ q1
            cases e2
            refine t2 ps (pn' ++ pn) ad (L2.wipe σ vs) H0 H3 v _ (ei.same s3) d3 fun σ2 e4 ws => ?_
            rw [wipe_wipe vs vs fun _ h => h] at ws
            have k3 : KD D ad g1 H1 g2 H3 := kd.trans ⟨fun a o _ _ h => s3 a o h, o2, fun a o h => ⟨o, s3 a o h⟩⟩
            refine ⟨ws, ?_⟩
            obtain ⟨b, g5, q5, q6⟩ := noEx_go q2
            refine hc ps (pn' ++ pn) ad g2 σ2 H0 H3 _ _ q5 e4 (fun c w g'' z => by cases z) fun b' g'' z bb H5 e5 k5 rb => ?_
            cases z
            subst rb
            have hD3 : H3 D = some (.lst accV) := s3 _ _ hDi
            have hDo2 : ∀ i, Own g2 i → D ≠ ad i := fun j hj z => hDo j (k3.own j hj) z.symm
            have hD5 := k5.keep D _ hDo2 hD3
            have da5 : DDs W H5 accV acc := (da.mo (MoD.same s3)).mo (e4.mo k5)
            cases bb with
            | false =>
              refine ⟨wipeG g5 vs, accV, acc, ?_, hD5, da5, q6, (k3.trans k5.kd).trans KD.wipe, fun i hi b o => wipeG_noM g5 hi⟩
              have := e5.wipe (vs := vs)
              rw [ws] at this
              exact this
            | true =>
              obtain ⟨yv, g7, q7, q8⟩ := noEx_go (show bnd (noEx me) _ g5 = _ from q6)
              refine he ps (pn' ++ pn) ad g5 σ2 H0 H5 _ _ q7 e5 (fun c w g'' z => by cases z) fun b' g'' z vv H7 e7 k7 r7 => ?_
              cases z
              split at q8
              · rename_i hsz
                have hDo5 : ∀ i, Own g5 i → D ≠ ad i := fun j hj => hDo2 j (k5.own j hj)
                have hD7 := k7.keep D _ hDo5 hD5
                have hDo7 : ∀ i, Own g7 i → ad i ≠ D := fun j hj z => hDo5 j (k7.own j hj) z.symm
                have da7 := da5.mo (e5.mo k7)
                refine ⟨accV, hD7, by rw [da7.len]; exact hsz, wipeG g7 vs, accV ++ [vv], acc ++ [yv], ?_, upd_same, ?_, q8, (((k3.trans k5.kd).trans k7.kd).trans KD.put).trans KD.wipe, fun i hi b o => wipeG_noM g7 hi⟩
                · have := (e7.over (o := .lst (accV ++ [vv])) hD0 hDo7 hD7 (fun z => z)).wipe (vs := vs)
                  rw [ws] at this
                  exact this
                · have m8 : MoD W H7 (upd H7 D (.lst (accV ++ [vv]))) := fun a w i q => by
                    rw [upd_ne (fun z => by subst z; rw [hD7] at q; cases q; exact i)]
                    exact q
                  exact (da7.mo m8).app (.cons (r7.mo m8) .nil)
              · cases q8
          · obtain ⟨g2', e2, _⟩ := hg _ _ _ q1
            cases e2
        · rw [List.drop_of_length_le (by omega)] at hr
          cases hr
          refine .inl ⟨it.stop i H pins (by omega), ?_⟩
          have mo1 : MoD W H1 H := KD.mo e1 hD kd
          have eB := (EnvD.back e1 hnM mo1 ei hn).unpin
          have hlen : gE.length = g1.length := by
            have a1 := ei.len
            have a2 := e1.len
            rw [L2.wipe_length] at a1
            omega
          have ob := back_own hnM hlen kd.own
          refine k _ _ rfl D H eB (k1.trans ⟨fun a w n q => ?_, ob, kd.old⟩) hDs hD0 (fun i hi => hDo i (ob i hi)) ⟨accV, hDi, da⟩
          have na : a ≠ D := fun z => by rw [z, hD] at q; cases q
          exact kd.keep a w na n q
      · cases h2
    · cases h2
  · subst h2
    exact hi ps pn ad g σ H0 H _ _ h1 e (fun c' w' g'' z => by cases z; exact x _ _ _ rfl) fun ds' g'' z => by cases z
theorem ddk_put {k : Key} {v : V} {d : Dat} : ∀ {vs : List (Key × V)} {ds : List (Key × Dat)}, DDk W H vs ds → DD W H v d → DDk W H (putK vs k v) (putDk ds k d) := fun {vs ds} h hv => by
  have any_eq : ∀ {vs : List (Key × V)} {ds : List (Key × Dat)}, DDk W H vs ds → (vs.any fun kv => decide (kv.1 = k)) = (ds.any fun kv => decide (kv.1 = k)) := by
    intro vs ds h
    induction vs generalizing ds with
    | nil => cases h; rfl
    | cons a r ih => cases h with | cons x y => rw [List.any_cons, List.any_cons, ih y]
  have map_ok : ∀ {vs : List (Key × V)} {ds : List (Key × Dat)}, DDk W H vs ds → DDk W H (vs.map fun kv => if kv.1 = k then (kv.1, v) else kv) (ds.map fun kv => if kv.1 = k then (kv.1, d) else kv) := by
    intro vs ds h
    induction vs generalizing ds with
    | nil => cases h; exact .nil
    | cons a r ih =>
      cases h with
      | @cons k' v' _ d' _ x y =>
        rw [List.map_cons, List.map_cons]
        by_cases e : k' = k
        · rw [if_pos e, if_pos e]
          exact .cons hv (ih y)
        · rw [if_neg e, if_neg e]
          exact .cons x (ih y)
  have app_ok : ∀ {vs : List (Key × V)} {ds : List (Key × Dat)}, DDk W H vs ds → DDk W H (vs ++ [(k, v)]) (ds ++ [(k, d)]) := by
    intro vs ds h
    induction vs generalizing ds with
    | nil => cases h; exact .cons hv .nil
    | cons a r ih => cases h with | cons x y => exact .cons x (ih y)
  unfold putK putDk
  rw [any_eq h]
  split
  · exact map_ok h
  · exact app_ok h
theorem keyO_some {d : Dat} {k : Key} {v : V} (h : keyO d = some k) (hv : DD W H v d) : v = kV k := by
  cases d <;> try cases h
  · exact dd_int hv
  · exact dd_str hv
/-- {k: v for t in it if c} -/
theorem en_dc {E : SK} {wi : TI} {tg : TG} {tt : TT} {tk tv : TE} {mi : M (List Dat)} {mt : Dat → M Unit} {mc : M Bool} {mk mv : M Dat} (hi : EvI W E wi mi) (hg : EvGw W vs tg mt) (hc : EvT W E0' tt mc) (hek : EvE W E0' tk mk) (hev : EvE W E0' tv mv) :
    EvN W E (tDc wi tg tt tk tv vs) (mDcN vs mi mt mc mk mv) := fun ps pn ad g σ H0 H r Q hm e x k => by
  rcases bnd_some hm with ⟨ds, g1, h1, h2⟩ | ⟨c, w, g', h1, h2⟩
  · split at h2
    · rename_i hnM
      split at h2
      · rename_i xs gE hE
        cases h2
        refine hi ps pn ad g σ H0 H _ _ h1 e (fun c w g'' z => by cases z) fun ds' g'' z J pn' H1 e1 k1 it => ?_
        cases z
        intro D hD
        have hD0 : H0 D = none := e1.fresh hD
        have hDo : ∀ i, Own g1 i → ad i ≠ D := e1.ownNe hD
        have hDs : H D = none := k1.none hD
        have eW : EnvD W ps (pn' ++ pn) ad (wipeG g1 vs) (L2.wipe σ vs) H0 (upd H1 D (.dK [])) := (e1.same (Same.new hD)).wipe
        refine ⟨fun i m H => ∃ gi accV acc, EnvD W ps (pn' ++ pn) ad gi (L2.wipe σ vs) H0 H ∧ m = ds.length - i ∧ i ≤ ds.length ∧ H D = some (.dK accV) ∧ DDk W H accV acc ∧ compK vs mt mc mk mv (ds.drop i) acc gi = some (.ok xs gE) ∧ KD D ad g1 H1 gi H ∧ (∀ i ∈ vs, ∀ b o, gi[i]? ≠ some (Sl.m b o)),
          ⟨ds.length, wipeG g1 vs, [], [], eW, by omega, Nat.zero_le _, upd_same, .nil, hE, (KD.put (o := .dK [])).trans KD.wipe, fun i hi b o => wipeG_noM g1 hi⟩, ?_⟩
        rintro i m H ⟨gi, accV, acc, ei, rfl, hle, hDi, da, hr, kd, hn⟩
        have pins : ∀ p ∈ pn', p.1 H := fun p hp => ei.pin p (List.mem_append_left _ hp)
        by_cases hlt : i < ds.length
        · rw [List.drop_eq_getElem_cons hlt] at hr
          obtain ⟨go, yld⟩ := it.step i ds[i] H pins (List.getElem?_eq_getElem hlt)
          refine .inr ⟨go, fun H' => ∃ gi accV acc, EnvD W ps (pn' ++ pn) ad gi (L2.wipe σ vs) H0 H' ∧ H' D = some (.dK accV) ∧ DDk W H' accV acc ∧ compK vs mt mc mk mv (ds.drop (i + 1)) acc gi = some (.ok xs gE) ∧ KD D ad g1 H1 gi H' ∧ (∀ i ∈ vs, ∀ b o, gi[i]? ≠ some (Sl.m b o)),
            fun H' ⟨gi', accV', acc', q1, q2, q3, q4, q5, q6⟩ => ⟨ds.length - (i + 1), by omega, gi', accV', acc', q1, rfl, by omega, q2, q3, q4, q5, q6⟩, fun v H3 y => ?_⟩
          obtain ⟨s3, d3⟩ := yld v H3 y
          rcases bnd_some (show bnd (mt ds[i]) _ gi = _ from hr) with ⟨_, g2, q1, q2⟩ | ⟨c, w, g2, q1, q2⟩
          · obtain ⟨g2', e2, w2, o2, t2⟩ := hg _ _ _ q1
            cases e2
            refine t2 ps (pn' ++ pn) ad (L2.wipe σ vs) H0 H3 v _ (ei.same s3) d3 fun σ2 e4 ws => ?_
            rw [wipe_wipe vs vs fun _ h => h] at ws
            have k3 : KD D ad g1 H1 g2 H3 := kd.trans ⟨fun a o _ _ h => s3 a o h, o2, fun a o h => ⟨o, s3 a o h⟩⟩
            refine ⟨ws, ?_⟩
            obtain ⟨b, g5, q5, q6⟩ := noEx_go q2
            refine hc ps (pn' ++ pn) ad g2 σ2 H0 H3 _ _ q5 e4 (fun c w g'' z => by cases z) fun b' g'' z bb H5 e5 k5 rb => ?_
            cases z
            subst rb
            have hD3 : H3 D = some (.dK accV) := s3 _ _ hDi
            have hDo2 : ∀ i, Own g2 i → D ≠ ad i := fun j hj z => hDo j (k3.own j hj) z.symm
            have hD5 := k5.keep D _ hDo2 hD3
            have da5 : DDk W H5 accV acc := (da.mo (MoD.same s3)).mo (e4.mo k5)
            cases bb with
            | false =>
              refine ⟨wipeG g5 vs, accV, acc, ?_, hD5, da5, q6, (k3.trans k5.kd).trans KD.wipe, fun i hi b o => wipeG_noM g5 hi⟩
              have := e5.wipe (vs := vs)
              rw [ws] at this
              exact this
            | true =>
              obtain ⟨yv, g7, q7, q8⟩ := noEx_go (show bnd (noEx mk) _ g5 = _ from q6)
              refine hek ps (pn' ++ pn) ad g5 σ2 H0 H5 _ _ q7 e5 (fun c w g'' z => by cases z) fun b' g'' z kk H7 e7 k7 r7 => ?_
              cases z
              obtain ⟨zv, g9, q9, q10⟩ := noEx_go q8
              refine hev ps (pn' ++ pn) ad g7 σ2 H0 H7 _ _ q9 e7 (fun c w g'' z => by cases z) fun b' g'' z vv H9 e9 k9 r9 => ?_
              cases z
              cases hk : keyO yv with
              | some k =>
                simp only [hk] at q10
                split at q10
                · rename_i hsz
                  have hDo5 : ∀ i, Own g5 i → D ≠ ad i := fun j hj => hDo2 j (k5.own j hj)
                  have hD7 := k7.keep D _ hDo5 hD5
                  have hDo7' : ∀ i, Own g7 i → D ≠ ad i := fun j hj => hDo5 j (k7.own j hj)
                  have hD9 := k9.keep D _ hDo7' hD7
                  have hDo9 : ∀ i, Own g9 i → ad i ≠ D := fun j hj z => hDo7' j (k9.own j hj) z.symm
                  have da9 := (da5.mo (e5.mo k7)).mo (e7.mo k9)
                  refine ⟨accV, k, keyO_some hk r7, hD9, by rw [da9.len]; exact hsz, wipeG g9 vs, putK accV k vv, putDk acc k zv, ?_, upd_same, ?_, q10, ((((k3.trans k5.kd).trans k7.kd).trans k9.kd).trans KD.put).trans KD.wipe, fun i hi b o => wipeG_noM g9 hi⟩
                  · have := (e9.over (o := .dK (putK accV k vv)) hD0 hDo9 hD9 (fun z => z)).wipe (vs := vs)
                    rw [ws] at this
                    exact this
                  · have m8 : MoD W H9 (upd H9 D (.dK (putK accV k vv))) := fun a w i q => by
                      rw [upd_ne (fun z => by subst z; rw [hD9] at q; cases q; exact i)]
                      exact q
                    exact ddk_put (da9.mo m8) (r9.mo m8)
                · cases q10
              | none =>
                simp only [hk] at q10
                cases q10
          · obtain ⟨g2', e2, _⟩ := hg _ _ _ q1
            cases e2
        · rw [List.drop_of_length_le (by omega)] at hr
          cases hr
          refine .inl ⟨it.stop i H pins (by omega), ?_⟩
          have mo1 : MoD W H1 H := KD.mo e1 hD kd
          have eB := (EnvD.back e1 hnM mo1 ei hn).unpin
          have hlen : gE.length = g1.length := by
            have a1 := ei.len
            have a2 := e1.len
            rw [L2.wipe_length] at a1
            omega
          have ob := back_own hnM hlen kd.own
          refine k _ _ rfl D H eB (k1.trans ⟨fun a w n q => ?_, ob, kd.old⟩) hDs hD0 (fun i hi => hDo i (ob i hi)) ⟨accV, hDi, da⟩
          have na : a ≠ D := fun z => by rw [z, hD] at q; cases q
          exact kd.keep a w na n q
      · cases h2
    · cases h2
  · subst h2
    exact hi ps pn ad g σ H0 H _ _ h1 e (fun c' w' g'' z => by cases z; exact x _ _ _ rfl) fun ds' g'' z => by cases z
/-- a new thing that is left as it is -/
theorem ev_fzN {E : SK} {te : TE} {m : M MO} (h : EvN W E te m) : EvE W E (tFz te) (mFzN m) := fun ps pn ad g σ H0 H r Q hm e x k => by
  rcases bnd_some hm with ⟨o, g1, h1, h2⟩ | ⟨c, w, g', h1, h2⟩
  · refine h ps pn ad g σ H0 H _ _ h1 e (fun c w g'' z => by cases z) fun o' g'' z p H1 e1 k1 hp h0 hn mo => ?_
    cases z
    obtain ⟨d, hd, rfl⟩ := lift_some h2
    have fin : ∀ {u : HO} {d' : Dat} {o : Obj}, H1 p = some u → ¬ ImmD W u → d = d' → DD W (upd H1 p (.frz o u)) (.ref p) d' → Q (.ref p) (upd H1 p (.frz o u)) := fun {u d' o} hu ni ed dd => by
      subst ed
      refine k _ _ rfl (.ref p) _ (e1.over h0 hn hu ni) ⟨fun a w n q => ?_, k1.own, fun a w q => ?_⟩ dd
      · rw [upd_ne (fun z => by rw [z, hp] at q; cases q)]
        exact k1.keep a w n q
      · obtain ⟨w', hw⟩ := k1.old a w q
        exact ⟨w', by rw [upd_ne (fun z => by rw [z, hp] at q; cases q)]; exact hw⟩
    cases o with
    | lst ds =>
      cases hd
      obtain ⟨xs, hx, da⟩ := mo
      refine ⟨p, .lst xs, rfl, hx, rfl, fun o => fin hx (fun z => z) rfl (.lst upd_same (da.mo fun a w i q => ?_))⟩
      rw [upd_ne (fun z => by subst z; rw [hx] at q; cases q; exact i)]
      exact q
    | dic ds =>
      cases hd
      obtain ⟨xs, hx, da⟩ := mo
      refine ⟨p, .dK xs, rfl, hx, rfl, fun o => fin hx (fun z => z) rfl (.dic upd_same (da.mo fun a w i q => ?_))⟩
      rw [upd_ne (fun z => by subst z; rw [hx] at q; cases q; exact i)]
      exact q
    | ins c gs => cases hd
  · subst h2
    exact h ps pn ad g σ H0 H _ _ h1 e (fun c' w' g'' z => by cases z; exact x _ _ _ rfl) fun ds' g'' z => by cases z
end
end DL

set_option Elab.async false
set_option linter.all false
set_option maxRecDepth 100000
set_option maxHeartbeats 4000000
/-! D5: statements and comprehensions of a def by their mirrors; what a def is worth; calls. -/
namespace DL
open PySem PySem.Spec PyProof.Rows L2 GX
abbrev PVS (X : Cx) (at_ : Addr → Nat) (E : SK) (st : Stmt) (m : M Fl) : Prop := ∃ ts, PS X st ts ∧ EvS (Wx X at_) E ts m
abbrev PVB (X : Cx) (at_ : Addr → Nat) (E : SK) (st : List Stmt) (m : M Fl) : Prop := ∃ ts, PSs X st ts ∧ EvS (Wx X at_) E ts m
abbrev PVI (X : Cx) (at_ : Addr → Nat) (E : SK) (tg e : Expr) (m : M (List Dat)) : Prop := ∃ wi, PI X tg e wi ∧ EvI (Wx X at_) E wi m
def TOk (mt : Dat → M Unit) : Prop := ∀ (d : Dat) (g : Frm) (r : R Unit), mt d g = some r → ∃ g', r = .ok () g'
def TsOk (mt : List Dat → M Unit) : Prop := ∀ (d : List Dat) (g : Frm) (r : R Unit), mt d g = some r → ∃ g', r = .ok () g'
abbrev PVG (X : Cx) (at_ : Addr → Nat) (tg : Expr) (mt : Dat → M Unit) : Prop := ∃ t, PG X tg t ∧ EvG (Wx X at_) t mt ∧ TOk mt
abbrev PVGs (X : Cx) (at_ : Addr → Nat) (tg : List Expr) (mt : List Dat → M Unit) : Prop := ∃ t, PGs X tg t ∧ EvGs (Wx X at_) t mt ∧ TsOk mt
/-! ### one reading for all -/
def ce (W : Wd) (E : SK) {α β : Type} (rel : Hp → β → α → Prop) (m : M α) : L2.St → Hp → (β → Hp → Prop) → Prop := fun σ H Q =>
  ∃ (ps : List Addr) (pn : List (Pn W)) (ad : Nat → Addr) (g : Frm) (H0 : Hp) (r : R α), m g = some r ∧ EnvD W ps pn ad g σ H0 H ∧ XO W E ps pn ad g σ H0 H r ∧
    ∀ a g', r = .ok a g' → ∀ b H', EnvD W ps pn ad g' σ H0 H' → Kp ad g H g' H' → rel H' b a → Q b H'
theorem ev_ce {W : Wd} {E : SK} {α β : Type} {rel : Hp → β → α → Prop} {m : M α} : Ev W E rel (ce W E rel m) m := fun ps pn ad g σ H0 H r Q hm e x k => ⟨ps, pn, ad, g, H0, r, hm, e, x, k⟩
theorem ce_to {W : Wd} {E : SK} {α β : Type} {rel : Hp → β → α → Prop} {m : M α} {t : L2.St → Hp → (β → Hp → Prop) → Prop} (h : Ev W E rel t m) {σ : L2.St} {H : Hp} {Q : β → Hp → Prop} : ce W E rel m σ H Q → t σ H Q :=
  fun ⟨ps, pn, ad, g, H0, r, hm, e, x, k⟩ => h ps pn ad g σ H0 H r Q hm e x k
section
variable {X : Cx} {at_ : Addr → Nat} {E : SK}
theorem PV.can {e : Expr} {m : M Dat} (h : PV X at_ E e m) : PE X e (ce (Wx X at_) E (fun H v d => DD (Wx X at_) H v d) m) := let ⟨_, p, v⟩ := h; ⟨fun pins s σ H Q I q => p.run pins s σ H Q I (ce_to v q)⟩
theorem PVT.can {e : Expr} {m : M Bool} (h : PVT X at_ E e m) : PT X e (ce (Wx X at_) E (fun _ b c => b = c) m) := let ⟨_, p, v⟩ := h; ⟨fun pins s σ H Q I q => p.run pins s σ H Q I (ce_to v q)⟩
end
/-! ### targets -/
theorem setD_tok {i : Nat} : TOk (setD i) := fun _ _ _ h => setD_ok h
theorem nil_tok : TsOk nilT := fun d g r h => by
  cases d with
  | nil => cases h; exact ⟨_, rfl⟩
  | cons a b => cases h
theorem cons_tok {t : Dat → M Unit} {u : List Dat → M Unit} (h1 : TOk t) (h2 : TsOk u) : TsOk (consT t u) := fun d g r h => by
  cases d with
  | nil => cases h
  | cons a b =>
    rcases bnd_some (show bnd (t a) (fun _ => u b) g = _ from h) with ⟨_, g1, q1, q2⟩ | ⟨c, w, g1, q1, q2⟩
    · exact h2 _ _ _ q2
    · obtain ⟨_, z⟩ := h1 _ _ _ q1
      cases z
theorem tup_tok {n : Nat} {t : List Dat → M Unit} (h : TsOk t) : TOk (tupT n t) := fun d g r q => by
  cases d <;> try cases q
  simp only [tupT] at q
  split at q
  · exact h _ _ _ q
  · cases q
section
variable {X : Cx} {at_ : Addr → Nat} {E : SK} {e tg c iter : Expr} {es : List Expr} {st : Stmt} {rest body a b : List Stmt} {pos pos' : Pos} {m : M Dat} {mA mB : M Bool} {ma mb : M Fl} {mi : M (List Dat)} {mt : Dat → M Unit} {mts : List Dat → M Unit}
theorem vg_name {i : Nat} {x : Str} (hN : X.N.Nodup) (hi : X.N[i]? = some x) (hx : Loc X.env.scope x) (hf : X.fn x = true ∨ X.env.scope.names.lookup x = some .local := by first | exact .inl rfl | exact .inr rfl | assumption) : PVG X at_ (.Name x pos) (setD i) :=
  ⟨_, pg_name hN hi hx hf, g_name, setD_tok⟩
theorem vg_nil : PVGs X at_ [] nilT := ⟨_, pgs_nil, g_nil, nil_tok⟩
theorem vg_cons (h1 : PVG X at_ e mt) (h2 : PVGs X at_ es mts) (hs : (assignEach (e :: es) X.env).map (·.2) = assign e X.env :: (assignEach es X.env).map (·.2) := by rfl) : PVGs X at_ (e :: es) (consT mt mts) :=
  let ⟨_, p1, v1, t1⟩ := h1; let ⟨_, p2, v2, t2⟩ := h2; ⟨_, pgs_cons p1 p2 hs, g_cons v1 v2, cons_tok t1 t2⟩
theorem vg_tup {k n : Nat} (hc : X.calm = true) (h : PVGs X at_ es mts) (hn : (assignEach es X.env).length = n := by rfl) (hst : (assignEach es X.env).findIdx? (·.1) = none := by rfl) : PVG X at_ (.Tuple es k pos) (tupT n mts) :=
  let ⟨_, p1, v1, t1⟩ := h; ⟨_, pg_tup hc p1 hn hst, g_tup v1, tup_tok t1⟩
/-! ### statements -/
theorem b_nil : PVB X at_ E [] mNext := ⟨_, pss_nil, s_next⟩
theorem b_cons (h1 : PVS X at_ E st ma) (h2 : PVB X at_ E rest mb) : PVB X at_ E (st :: rest) (mSeq ma mb) := let ⟨_, p1, v1⟩ := h1; let ⟨_, p2, v2⟩ := h2; ⟨_, pss_cons p1 p2, s_seq v1 v2⟩
theorem b_one (h1 : PVS X at_ E st ma) : PVB X at_ E [st] ma := let ⟨_, p1, v1⟩ := h1; ⟨_, pss_one p1, v1⟩
theorem v_pass : PVS X at_ E (.Pass pos) mNext := ⟨_, ps_pass, s_next⟩
theorem v_break : PVS X at_ E (.Break pos) (ret .bk) := ⟨_, ps_break, fun ps pn ad g σ H0 H r D hm e x k => by cases hm; exact k .bk g rfl ad σ H e⟩
theorem v_continue : PVS X at_ E (.Continue pos) (ret .ct) := ⟨_, ps_continue, fun ps pn ad g σ H0 H r D hm e x k => by cases hm; exact k .ct g rfl ad σ H e⟩
theorem v_expr (h : PV X at_ E e m) (hs : swapsWith e none pos.line X.env = pure false := by rfl) : PVS X at_ E (.Expr e pos) (mDrop m) := let ⟨_, p, v⟩ := h; ⟨_, ps_expr p hs, s_drop v⟩
theorem v_ret (h : PV X at_ E e m) : PVS X at_ E (.Return (some e) pos) (mRet m) := let ⟨_, p, v⟩ := h; ⟨_, ps_ret p, s_ret v⟩
theorem v_retN : PVS X at_ E (.Return none pos) mRetN := ⟨_, ps_retN, s_retN⟩
theorem v_if (hc : PVT X at_ E c mA) (ha : PVB X at_ E a ma) (hb : PVB X at_ E b mb) : PVS X at_ E (.If c a b pos) (mIf mA ma mb) := let ⟨_, p0, v0⟩ := hc; let ⟨_, p1, v1⟩ := ha; let ⟨_, p2, v2⟩ := hb; ⟨_, ps_if p0 p1 p2, s_if v0 v1 v2⟩
theorem v_set {i : Nat} {x : Str} (hN : X.N.Nodup) (hi : X.N[i]? = some x) (hx : Loc X.env.scope x) (h : PV X at_ E e m) (hs : swapsWith e (some (.Name x pos')) pos.line X.env = pure false := by rfl) (hf : X.fn x = true ∨ X.env.scope.names.lookup x = some .local := by first | exact .inl rfl | exact .inr rfl | assumption) :
    PVS X at_ E (.Assign [.Name x pos'] e pos) (mSet i m) := let ⟨_, p, v⟩ := h; ⟨_, ps_set hN hi hx p hs hf, s_set v⟩
theorem v_asg (h : PV X at_ E e m) (hg : PVG X at_ tg mt) (hs : swapsWithSole [tg] e pos.line X.env = pure false := by rfl) (hw : swappedStores [tg] e X.env = pure none := by rfl) (h1 : (assignEach [tg] X.env).map (·.2) = [assign tg X.env] := by rfl) :
    PVS X at_ E (.Assign [tg] e pos) (mAsg mt m) := let ⟨_, p, v⟩ := h; let ⟨_, p2, v2, o2⟩ := hg; ⟨_, ps_asg p p2 hs hw h1, s_asg o2 v v2⟩
theorem v_for (hp : PassesOwn (model X.prog X.w) X.A X.env X.xe) (hc : X.calm = true) (hi : PVI X at_ E tg iter mi) (hg : PVG X at_ tg mt) (hb : PVB X at_ E body mb) (hs : ∀ x, foldedSetIterable iter X.env x = pure x := by intro _; rfl) : PVS X at_ E (.For tg iter body [] pos) (mFor mi mt mb) :=
  let ⟨_, p1, v1⟩ := hi; let ⟨_, p2, v2, o2⟩ := hg; let ⟨_, p3, v3⟩ := hb; ⟨_, ps_for hp hc p1 p2 p3 hs, s_for o2 v1 v2 v3⟩
theorem v_while (hp : PassesOwn (model X.prog X.w) X.A X.env X.xe) (hc : PVT X at_ E c mA) (hb : PVB X at_ E body mb) : PVS X at_ E (.While c body [] pos) (mWhile mA mb) :=
  let ⟨_, p1, v1⟩ := hc; let ⟨_, p3, v3⟩ := hb; ⟨_, ps_while hp p1 p3, s_while v1 v3⟩
/-! ### walks -/
theorem vi_lst (h : PV X at_ E e m) : PVI X at_ E tg e (mSeqO seqO m) := let ⟨_, p, v⟩ := h; ⟨_, pi_list p, i_lst v⟩
theorem vi_tup (h : PV X at_ E e m) : PVI X at_ E tg e (mSeqO tupO m) := let ⟨_, p, v⟩ := h; ⟨_, pi_tup p, i_tup v⟩
theorem vi_rng1 {p : Pos} (hg : Gl X "range") (hm : X.mg "range" = none) (h : PVA X at_ E [e] mi) (hs : starEach [e] X.env = [(false, eval e X.env)] := by rfl) : PVI X at_ E tg (.Call (.Name "range" p) [e] [] pos) (mItA rg1O mi) := let ⟨_, p1, v1⟩ := h; ⟨_, pi_range1 hg hm p1 hs, i_rng1 v1⟩
theorem vi_rng2 {p : Pos} (hg : Gl X "range") (hm : X.mg "range" = none) (h : PVA X at_ E [e, c] mi) (hs : starEach [e, c] X.env = [(false, eval e X.env), (false, eval c X.env)] := by rfl) (hs2 : starEach [c] X.env = [(false, eval c X.env)] := by rfl) :
    PVI X at_ E tg (.Call (.Name "range" p) [e, c] [] pos) (mItA rg2O mi) := let ⟨_, p1, v1⟩ := h; ⟨_, pi_range2 hg hm p1 hs hs2, i_rng2 v1⟩
/-! ### comprehensions -/
theorem pts_can {ifs : List Expr} {W : Wd} {t : TT} (h : PTs X ifs t) (v : EvT W E t mA) : PTs X ifs (ce W E (fun _ b c => b = c) mA) := ⟨fun pins s σ H Q I q => h.run pins s σ H Q I (ce_to v q)⟩
abbrev PVTs (X : Cx) (at_ : Addr → Nat) (E : SK) (ifs : List Expr) (m : M Bool) : Prop := ∃ t, PTs X ifs t ∧ EvT (Wx X at_) E t m
theorem ts_nil : PVTs X at_ E [] (ret true) := ⟨_, pts_nil, fun ps pn ad g σ H0 H r Q hm e x k => by cases hm; exact k _ _ rfl true H e Kp.refl rfl⟩
theorem ts_one (h : PVT X at_ E c mA) : PVTs X at_ E [c] mA := let ⟨_, p, v⟩ := h; ⟨_, pts_one p, v⟩
theorem q_lc {elt : Expr} {ifs : List Expr} {scope : Scope} {own : List (Str × Nat)} {t : TG} {me : M Dat} (hc : X.calm = true) (hN : X.N.Nodup) (hi : PVI X at_ E tg iter mi) (ok : BlkOk X.N X.env.scope scope own)
    (hg : ∀ (s : Shared) (H : Hp) (C : Addr) (cl : List (Str × Addr)) (fp : List Addr), PG (X.blk s H scope (compEnvC scope cl C X.env) fp) tg t) (hv : EvGw (Wx X at_) (own.map (·.2)) t mt)
    (ht : ∀ (s : Shared) (H : Hp) (C : Addr) (cl : List (Str × Addr)) (fp : List Addr), PVTs (X.blk s H scope (compEnvC scope cl C X.env) fp) at_ E0' ifs mA)
    (he : ∀ (s : Shared) (H : Hp) (C : Addr) (cl : List (Str × Addr)) (fp : List Addr), PV (X.blk s H scope (compEnvC scope cl C X.env) fp) at_ E0' elt me) (hs : ∀ x, foldedSetIterable iter X.env x = pure x := by intro _; rfl) :
    PV X at_ E (.ListComp elt [⟨tg, iter, ifs, 0⟩] scope pos) (mLc (own.map (·.2)) mi mt mA me) :=
  let ⟨_, p1, v1⟩ := hi
  ⟨_, pe_fz (pe_lc hc hN p1 ok hg (fun s H C cl fp => let ⟨_, p, v⟩ := ht s H C cl fp; pts_can p v) (fun s H C cl fp => (he s H C cl fp).can) hs), ev_fzN (en_lc v1 hv ev_ce ev_ce)⟩
theorem q_dc {ke ve : Expr} {ifs : List Expr} {scope : Scope} {own : List (Str × Nat)} {t : TG} {mk mv : M Dat} (hc : X.calm = true) (hN : X.N.Nodup) (hi : PVI X at_ E tg iter mi) (ok : BlkOk X.N X.env.scope scope own)
    (hg : ∀ (s : Shared) (H : Hp) (C : Addr) (cl : List (Str × Addr)) (fp : List Addr), PG (X.blk s H scope (compEnvC scope cl C X.env) fp) tg t) (hv : EvGw (Wx X at_) (own.map (·.2)) t mt)
    (ht : ∀ (s : Shared) (H : Hp) (C : Addr) (cl : List (Str × Addr)) (fp : List Addr), PVTs (X.blk s H scope (compEnvC scope cl C X.env) fp) at_ E0' ifs mA)
    (hk : ∀ (s : Shared) (H : Hp) (C : Addr) (cl : List (Str × Addr)) (fp : List Addr), PV (X.blk s H scope (compEnvC scope cl C X.env) fp) at_ E0' ke mk)
    (hw : ∀ (s : Shared) (H : Hp) (C : Addr) (cl : List (Str × Addr)) (fp : List Addr), PV (X.blk s H scope (compEnvC scope cl C X.env) fp) at_ E0' ve mv) (hs : ∀ x, foldedSetIterable iter X.env x = pure x := by intro _; rfl) :
    PV X at_ E (.DictComp ke ve [⟨tg, iter, ifs, 0⟩] scope pos) (mFzN (mDcN (own.map (·.2)) mi mt mA mk mv)) :=
  let ⟨_, p1, v1⟩ := hi
  ⟨_, pe_fz (pe_dc hc hN p1 ok hg (fun s H C cl fp => let ⟨_, p, v⟩ := ht s H C cl fp; pts_can p v) (fun s H C cl fp => (hk s H C cl fp).can) (fun s H C cl fp => (hw s H C cl fp).can) hs), ev_fzN (en_dc v1 hv ev_ce ev_ce ev_ce)⟩
end

/-! ### what a def is worth -/
inductive RF where
  | ok (d : Dat) (os : List MO) | ex (c : Str) (w : Dat) (os : List MO)
abbrev FM := List MO → List Dat → Option RF
def outs : Nat → Frm → Option (List MO)
  | 0, _ => some []
  | k + 1, .m true o :: r => (outs k r).map (o :: ·)
  | _ + 1, _ => none
def runF (k n : Nat) (body : M Fl) : FM := fun os ds => if os.length = k ∧ k + ds.length ≤ n then match body (os.map (Sl.m true) ++ (ds.map Sl.d ++ List.replicate (n - (k + ds.length)) .no)) with
    | some (.ok (.rt d) g) => (outs k g).map (RF.ok d ·)
    | some (.ok .nx g) => (outs k g).map (RF.ok .non ·)
    | some (.ex c w g) => (outs k g).map (RF.ex c w ·)
    | _ => none
  else none
structure MOs (W : Wd) (H : Hp) (ps : List Addr) (os : List MO) : Prop where
  len : ps.length = os.length
  at_ : ∀ (i : Nat) (a : Addr) (o : MO), ps[i]? = some a → os[i]? = some o → MOk W H a o
def Bts (ps : List Addr) (H H' : Hp) : Prop := ∀ a o, a ∉ ps → H a = some o → H' a = some o
/-- k things that may change ahead, ar arguments in all -/
def spF (W : Wd) (k ar : Nat) (F : FM) : Sp := fun vs H Q E => ∃ (ps : List Addr) (os : List MO) (us : List V) (ds : List Dat) (r : RF), vs = ps.map V.ref ++ us ∧ ps.length = k ∧ k + ds.length = ar ∧ ps.Nodup ∧ MOs W H ps os ∧ DDs W H us ds ∧ F os ds = some r ∧
  (∀ d os', r = .ok d os' → ∀ v H', Bts ps H H' → MOs W H' ps os' → DD W H' v d → Q v H') ∧
  (∀ c w os', r = .ex c w os' → ∀ C dx H', W.mg c = some (.ref C) → Bts ps H H' → MOs W H' ps os' → XV W H' dx w → E (.ref C) (some dx) H')
theorem spF_len {W : Wd} {k ar : Nat} {F : FM} {vs : List V} {H : Hp} {Q : VK} {E : XK} (h : spF W k ar F vs H Q E) : vs.length = ar := by
  obtain ⟨ps, os, us, ds, r, rfl, hk, har, _, _, hd, _⟩ := h
  rw [List.length_append, List.length_map, hd.len, hk, har]
section
variable {W : Wd} {ps : List Addr} {pn : List (Pn W)} {ad : Nat → Addr} {g : Frm} {σ : L2.St} {H0 H : Hp}
theorem getElem?_app3 {α : Type} {xs ys zs : List α} {i : Nat} {a : α} (h : (xs ++ (ys ++ zs))[i]? = some a) : (i < xs.length ∧ xs[i]? = some a) ∨ (xs.length ≤ i ∧ i < xs.length + ys.length ∧ ys[i - xs.length]? = some a) ∨ (xs.length + ys.length ≤ i ∧ zs[i - xs.length - ys.length]? = some a) := by
  rcases Nat.lt_or_ge i xs.length with h1 | h1
  · rw [List.getElem?_append_left h1] at h
    exact .inl ⟨h1, h⟩
  · rw [List.getElem?_append_right h1] at h
    rcases Nat.lt_or_ge (i - xs.length) ys.length with h2 | h2
    · rw [List.getElem?_append_left h2] at h
      exact .inr (.inl ⟨h1, by omega, h⟩)
    · rw [List.getElem?_append_right h2] at h
      exact .inr (.inr ⟨by omega, h⟩)
/-- at a def's entry -/
theorem EnvD.start {N : List Str} {us : List V} {ds : List Dat} {os : List MO} (hn : ps.length + ds.length ≤ N.length) (nd : ps.Nodup) (mo : MOs W H ps os) (hd : DDs W H us ds) :
    EnvD W ps [] (fun i => ps.getD i 0) (os.map (Sl.m true) ++ (ds.map Sl.d ++ List.replicate (N.length - (ps.length + ds.length)) .no)) (L2.start N (ps.map V.ref ++ us)) H H := by
  have hl := hd.len
  have hlo := mo.len
  have σe : L2.start N (ps.map V.ref ++ us) = (ps.map fun a => some (V.ref a)) ++ (us.map some ++ List.replicate (N.length - (ps.length + ds.length)) none) := by
    unfold L2.start
    rw [List.map_append, List.map_map, List.append_assoc, List.length_append, List.length_map, hl]
    rfl
  have own : ∀ (i : Nat) (b : Bool) (o : MO), (os.map (Sl.m true) ++ (ds.map Sl.d ++ List.replicate (N.length - (ps.length + ds.length)) Sl.no))[i]? = some (Sl.m b o) → b = true ∧ i < ps.length ∧ os[i]? = some o := fun i b o h => by
    rcases getElem?_app3 h with ⟨h1, h2⟩ | ⟨_, _, h2⟩ | ⟨_, h2⟩
    · rw [List.getElem?_map] at h2
      obtain ⟨o', e1, e2⟩ := Option.map_eq_some_iff.mp h2
      cases e2
      rw [List.length_map] at h1
      exact ⟨rfl, by omega, e1⟩
    · rw [List.getElem?_map] at h2
      obtain ⟨o', e1, e2⟩ := Option.map_eq_some_iff.mp h2
      cases e2
    · have := List.eq_of_mem_replicate (List.mem_of_getElem? h2)
      cases this
  rw [σe]
  refine ⟨by simp only [List.length_append, List.length_map, List.length_replicate]; omega, fun i x h => ?_, fun i b o h => ?_, fun i b o h => ?_, fun i x h => ?_, fun i j hi hj e => ?_, fun a o _ h => h, fun p hp => absurd hp List.not_mem_nil, fun a ha => ?_⟩
  · rcases getElem?_app3 h with ⟨h1, h2⟩ | ⟨h0, h1, h2⟩ | ⟨_, h2⟩
    · rw [List.getElem?_map] at h2
      obtain ⟨o', e1, e2⟩ := Option.map_eq_some_iff.mp h2
      cases e2
    · rw [List.getElem?_map] at h2
      obtain ⟨d', e1, e2⟩ := Option.map_eq_some_iff.mp h2
      cases e2
      obtain ⟨v, hv, dv⟩ := hd.getD e1
      refine ⟨v, ?_, dv⟩
      rw [List.length_map] at h0 h1 hv
      rw [List.length_map] at h1
      rw [List.getElem?_append_right (by rw [List.length_map]; omega), List.getElem?_append_left (by rw [List.length_map, List.length_map]; omega), List.getElem?_map, List.length_map, hlo, hv]
      rfl
    · have := List.eq_of_mem_replicate (List.mem_of_getElem? h2)
      cases this
  · obtain ⟨rfl, h1, h2⟩ := own i b o h
    have e : ps[i]? = some (ps.getD i 0) := by rw [List.getD_eq_getElem?_getD, List.getElem?_eq_getElem h1]; rfl
    refine ⟨?_, mo.at_ i _ o e h2⟩
    rw [List.getElem?_append_left (by rw [List.length_map]; exact h1), List.getElem?_map, e]
    rfl
  · obtain ⟨rfl, h1, h2⟩ := own i b o h
    rw [if_pos rfl, List.getD_eq_getElem?_getD, List.getElem?_eq_getElem h1]
    rfl
  · rcases getElem?_app3 h with ⟨h1, h2⟩ | ⟨_, _, h2⟩ | ⟨_, h2⟩
    · rw [List.getElem?_map] at h2
      obtain ⟨o', e1, e2⟩ := Option.map_eq_some_iff.mp h2
      cases e2
    · rw [List.getElem?_map] at h2
      obtain ⟨o', e1, e2⟩ := Option.map_eq_some_iff.mp h2
      cases e2
    · have := List.eq_of_mem_replicate (List.mem_of_getElem? h2)
      cases this
  · obtain ⟨b, o, h⟩ := hi
    obtain ⟨b', o', h'⟩ := hj
    obtain ⟨_, h1, _⟩ := own i b o h
    obtain ⟨_, h2, _⟩ := own j b' o' h'
    rw [List.getD_eq_getElem?_getD, List.getD_eq_getElem?_getD, List.getElem?_eq_getElem h1, List.getElem?_eq_getElem h2] at e
    exact (List.getElem_inj nd).mp e
  · obtain ⟨i, hi, rfl⟩ := List.mem_iff_getElem.mp ha
    obtain ⟨o, ho⟩ : ∃ o, os[i]? = some o := ⟨os[i], List.getElem?_eq_getElem (by omega)⟩
    have := mo.at_ i _ o (List.getElem?_eq_getElem hi) ho
    cases o with
    | lst ds => obtain ⟨xs, h, _⟩ := this; exact ⟨_, h⟩
    | dic ds => obtain ⟨xs, h, _⟩ := this; exact ⟨_, h⟩
    | ins c gs => obtain ⟨C, dx, fs, _, h, _⟩ := this; exact ⟨_, h⟩
theorem outs_at : ∀ {k : Nat} {g : Frm} {os : List MO}, outs k g = some os → os.length = k ∧ ∀ (i : Nat) (o : MO), os[i]? = some o → g[i]? = some (Sl.m true o)
  | 0, _, _, h => by cases h; exact ⟨rfl, fun i o h => by simp at h⟩
  | k + 1, [], _, h => by cases h
  | k + 1, .m true o :: r, _, h => by
    obtain ⟨os, h1, rfl⟩ := Option.map_eq_some_iff.mp (show (outs k r).map (o :: ·) = _ from h)
    obtain ⟨h2, h3⟩ := outs_at h1
    refine ⟨by rw [List.length_cons, h2], fun i o' e => ?_⟩
    cases i with
    | zero => cases e; rfl
    | succ i => exact h3 i o' e
  | k + 1, .no :: r, _, h => by cases h
  | k + 1, .d _ :: r, _, h => by cases h
  | k + 1, .m false o :: r, _, h => by cases h
  | k + 1, .s _ :: r, _, h => by cases h
theorem EnvD.mos (e : EnvD W ps pn ad g σ H0 H) {os : List MO} (h : outs ps.length g = some os) : MOs W H ps os := by
  obtain ⟨h1, h2⟩ := outs_at h
  refine ⟨h1.symm, fun i a o ha ho => ?_⟩
  have hg := h2 i o ho
  have hp := e.pp i true o hg
  rw [if_pos rfl, ha] at hp
  cases hp
  exact (e.sm i true o hg).2
/-- what a def's body tells -/
theorem body_run {E : XK} {N : List Str} {k ar : Nat} {ts : TS} {mb : M Fl} {vs : List V} {Q : VK} (hb : EvS W (fun _ => E) ts mb) (hn : ar ≤ N.length) (h : spF W k ar (runF k N.length mb) vs H Q E) : ts { nx := fun _ H' => Q .non H', rt := Q } (L2.start N vs) H := by
  obtain ⟨ps, os, us, ds, r, rfl, rfl, har, nd, mo, hd, hr, hq, hx⟩ := h
  unfold runF at hr
  split at hr
  · rename_i hc
    obtain ⟨h1, h2⟩ := hc
    have e := EnvD.start (N := N) h2 nd mo hd
    have bts : ∀ {g' : Frm} {ad' : Nat → Addr} {σ' : L2.St} {H' : Hp}, EnvD W ps [] ad' g' σ' H H' → Bts ps H H' := fun e' a o n q => e'.ext a o n q
    split at hr
    · rename_i d g' hm
      obtain ⟨os', ho, rfl⟩ := Option.map_eq_some_iff.mp hr
      refine hb ps [] _ _ _ H H _ _ hm e (fun c w g'' z => by cases z) fun f g'' z ad' σ' H' e' => ?_
      cases z
      exact fun v dv => hq _ _ rfl v H' (bts e') (e'.mos ho) dv
    · rename_i g' hm
      obtain ⟨os', ho, rfl⟩ := Option.map_eq_some_iff.mp hr
      refine hb ps [] _ _ _ H H _ _ hm e (fun c w g'' z => by cases z) fun f g'' z ad' σ' H' e' => ?_
      cases z
      exact hq _ _ rfl .non H' (bts e') (e'.mos ho) .non
    · rename_i c w g' hm
      obtain ⟨os', ho, rfl⟩ := Option.map_eq_some_iff.mp hr
      refine hb ps [] _ _ _ H H _ _ hm e (fun c w g'' z C dx ad' σ' H' hm' e' v => ?_) fun f g'' z => by cases z
      cases z
      exact hx _ _ _ rfl C dx H' hm' (bts e') (e'.mos ho) v
    · cases hr
  · cases hr
end
end DL

set_option Elab.async false
set_option linter.all false
set_option maxRecDepth 100000
set_option maxHeartbeats 4000000
/-! D6: calls of defs; defs by their mirrors. -/
namespace DL
open PySem PySem.Spec PyProof.Rows L2 GX
def ownB (g : Frm) (j : Nat) : Bool := isM (g.getD j .no)
def getMs : List Nat → Frm → Option (List MO)
  | [], _ => some []
  | j :: js, g => match g[j]? with
    | some (.m _ o) => (getMs js g).map (o :: ·)
    | _ => none
def putM (j : Nat) (o : MO) (g : Frm) : Frm := match g[j]? with
  | some (.m b _) => g.set j (.m b o)
  | _ => g
def putMs : List Nat → List MO → Frm → Frm
  | j :: js, o :: os, g => putMs js os (putM j o g)
  | _, _, g => g
/-- js: the slots of what the callee may change; dd: the defaults -/
def mCall (js : List Nat) (F : FM) (dd : List Dat) (m : M (List Dat)) : M Dat := fun g => if js.all (ownB g) = true then bnd m (fun ds g1 => match getMs js g1 with
    | none => none
    | some os => match F os (ds ++ dd) with
      | some (.ok d os') => if os'.length = js.length then some (.ok d (putMs js os' g1)) else none
      | some (.ex c w os') => if os'.length = js.length then some (.ex c w (putMs js os' g1)) else none
      | none => none) g
  else none
def okF (F : FM) : FM := fun os ds => match F os ds with
  | some (.ok d os') => some (.ok d os')
  | _ => none
section
variable {W : Wd} {E : SK} {ps : List Addr} {pn : List (Pn W)} {ad : Nat → Addr} {g g' : Frm} {σ : L2.St} {H0 H H' : Hp}
theorem ownB_own {j : Nat} (h : ownB g j = true) : Own g j := by
  unfold ownB at h
  rw [List.getD_eq_getElem?_getD] at h
  cases q : g[j]? with
  | none => rw [q] at h; cases h
  | some s =>
    rw [q] at h
    cases s with
    | m b o => exact ⟨b, o, q⟩
    | no => cases h
    | d x => cases h
    | s x => cases h
theorem getMs_at : ∀ {js : List Nat} {os : List MO}, getMs js g = some os → os.length = js.length ∧ ∀ (i j : Nat) (o : MO), js[i]? = some j → os[i]? = some o → ∃ b, g[j]? = some (Sl.m b o)
  | [], _, h => by cases h; exact ⟨rfl, fun i j o h => by simp at h⟩
  | j :: js, _, h => by
    unfold getMs at h
    split at h
    · rename_i b o hj
      obtain ⟨os, h1, rfl⟩ := Option.map_eq_some_iff.mp h
      obtain ⟨h2, h3⟩ := getMs_at h1
      refine ⟨by rw [List.length_cons, List.length_cons, h2], fun i j' o' e1 e2 => ?_⟩
      cases i with
      | zero => cases e1; cases e2; exact ⟨b, hj⟩
      | succ i => exact h3 i j' o' e1 e2
    · cases h
theorem putM_at {j i : Nat} {o : MO} {s : Sl} (h : (putM j o g)[i]? = some s) : (i = j ∧ ∃ b o', g[j]? = some (Sl.m b o') ∧ s = .m b o) ∨ ((i ≠ j ∨ ¬ Own g j) ∧ g[i]? = some s) := by
  unfold putM at h
  split at h
  · rename_i b o' hj
    by_cases e : i = j
    · subst e
      rw [List.getElem?_set_self (List.getElem?_eq_some_iff.mp hj).1] at h
      cases h
      exact .inl ⟨rfl, b, o', hj, rfl⟩
    · rw [List.getElem?_set_ne (Ne.symm e)] at h
      exact .inr ⟨.inl e, h⟩
  · rename_i hn
    exact .inr ⟨.inr fun ⟨b, o', q⟩ => hn b o' q, h⟩
theorem putM_len {j : Nat} {o : MO} : (putM j o g).length = g.length := by
  unfold putM
  split
  · rw [List.length_set]
  · rfl
theorem putM_own {j : Nat} {o : MO} (i : Nat) : Own (putM j o g) i ↔ Own g i := by
  refine ⟨fun ⟨b, o', h⟩ => ?_, fun ⟨b, o', h⟩ => ?_⟩
  · rcases putM_at h with ⟨rfl, b, o'', h, _⟩ | ⟨_, h⟩
    · exact ⟨b, o'', h⟩
    · exact ⟨b, o', h⟩
  · unfold putM
    split
    · rename_i b2 o2 hj
      by_cases e : i = j
      · subst e
        exact ⟨b2, o, List.getElem?_set_self (List.getElem?_eq_some_iff.mp hj).1⟩
      · exact ⟨b, o', by rw [List.getElem?_set_ne (Ne.symm e)]; exact h⟩
    · exact ⟨b, o', h⟩
/-- one after another -/
theorem putMs_at : ∀ {js : List Nat} {os : List MO} {g : Frm} {i : Nat} {s : Sl}, js.Nodup → (∀ j ∈ js, Own g j) → os.length = js.length → (putMs js os g)[i]? = some s →
    (∃ (k : Nat) (o : MO) (b : Bool) (o' : MO), js[k]? = some i ∧ os[k]? = some o ∧ g[i]? = some (Sl.m b o') ∧ s = .m b o) ∨ (i ∉ js ∧ g[i]? = some s)
  | [], _, _, _, _, _, _, _, h => .inr ⟨List.not_mem_nil, by simpa [putMs] using h⟩
  | j :: js, [], _, _, _, _, _, hl, _ => by simp at hl
  | j :: js, o :: os, g, i, s, nd, ow, hl, h => by
    obtain ⟨n1, n2⟩ := List.nodup_cons.mp nd
    rcases putMs_at (g := putM j o g) n2 (fun k hk => (putM_own k).mpr (ow k (List.mem_cons_of_mem _ hk))) (by simpa using hl) h with ⟨k, o1, b, o', e1, e2, e3, e4⟩ | ⟨h1, h2⟩
    · rcases putM_at e3 with ⟨rfl, _⟩ | ⟨_, e5⟩
      · exact absurd (List.mem_of_getElem? e1) n1
      · exact .inl ⟨k + 1, o1, b, o', e1, e2, e5, e4⟩
    · rcases putM_at h2 with ⟨rfl, b, o', e5, rfl⟩ | ⟨ne, e5⟩
      · exact .inl ⟨0, o, b, o', rfl, rfl, e5, rfl⟩
      · have nj : i ≠ j := fun e => by
          subst e
          exact ne.elim (fun z => z rfl) fun z => z (ow i List.mem_cons_self)
        exact .inr ⟨fun z => (List.mem_cons.mp z).elim nj h1, e5⟩
theorem putMs_len : ∀ {js : List Nat} {os : List MO} {g : Frm}, (putMs js os g).length = g.length
  | [], _, _ => by simp [putMs]
  | _ :: _, [], _ => by simp [putMs]
  | j :: js, o :: os, g => by
    show (putMs js os (putM j o g)).length = _
    rw [putMs_len, putM_len]
/-- behind a call -/
theorem EnvD.call {js : List Nat} {os' : List MO} (e : EnvD W ps pn ad g σ H0 H) (nd : js.Nodup) (ow : ∀ j ∈ js, Own g j) (hl : os'.length = js.length) (b : Bts (js.map ad) H H') (mo : MOs W H' (js.map ad) os') :
    EnvD W ps pn ad (putMs js os' g) σ H0 H' ∧ Kp ad g H (putMs js os' g) H' := by
  have at1 := fun {i : Nat} {s : Sl} (h : (putMs js os' g)[i]? = some s) => putMs_at nd ow hl h
  have ownI : ∀ i, Own (putMs js os' g) i → Own g i := fun i ⟨b, o, h⟩ => by
    rcases at1 h with ⟨k, o1, b1, o', _, _, e3, _⟩ | ⟨_, h⟩
    · exact ⟨b1, o', e3⟩
    · exact ⟨b, o, h⟩
  have inA : ∀ a, a ∈ js.map ad → ∃ j, j ∈ js ∧ Own g j ∧ a = ad j := fun a h => by
    obtain ⟨j, hj, rfl⟩ := List.mem_map.mp h
    exact ⟨j, hj, ow j hj, rfl⟩
  have old : ∀ a o, H a = some o → ∃ o', H' a = some o' := fun a o h => by
    by_cases z : a ∈ js.map ad
    · obtain ⟨i, hi, rfl⟩ := List.mem_iff_getElem.mp z
      have hlen := mo.len
      obtain ⟨o, ho⟩ : ∃ o, os'[i]? = some o := ⟨os'[i], List.getElem?_eq_getElem (by omega)⟩
      have := mo.at_ i _ o (List.getElem?_eq_getElem hi) ho
      cases o with
      | lst ds => obtain ⟨xs, h, _⟩ := this; exact ⟨_, h⟩
      | dic ds => obtain ⟨xs, h, _⟩ := this; exact ⟨_, h⟩
      | ins c gs => obtain ⟨C, dx, fs, _, h, _⟩ := this; exact ⟨_, h⟩
    · exact ⟨o, b a o z h⟩
  have kp : Kp ad g H (putMs js os' g) H' := ⟨fun a o n h => b a o (fun z => by
    obtain ⟨j, _, hj, rfl⟩ := inA a z
    exact n j hj rfl) h, ownI, old⟩
  have m := e.mo kp
  refine ⟨⟨by rw [putMs_len, e.len], fun i x h => ?_, fun i b1 o h => ?_, fun i b1 o h => ?_, fun i x h => ?_, fun i j hi hj => e.inj i j (ownI i hi) (ownI j hj), fun a o n h => ?_, fun p hp => p.2 _ _ m (e.pin p hp), fun a ha => ?_⟩, kp⟩
  · rcases at1 h with ⟨k, o1, b1, o', _, _, _, e4⟩ | ⟨_, h⟩
    · cases e4
    · obtain ⟨v, h1, h2⟩ := e.sd i x h
      exact ⟨v, h1, h2.mo m⟩
  · rcases at1 h with ⟨k, o1, b2, o', e1, e2, e3, e4⟩ | ⟨hn, h⟩
    · cases e4
      refine ⟨(e.sm i b1 o' e3).1, mo.at_ k (ad i) o (by rw [List.getElem?_map, e1]; rfl) e2⟩
    · obtain ⟨h1, h2⟩ := e.sm i b1 o h
      refine ⟨h1, h2.keep m fun u hu => b _ _ (fun z => ?_) hu⟩
      obtain ⟨j, hj, oj, ej⟩ := inA _ z
      rw [e.inj i j ⟨b1, o, h⟩ oj ej] at hn
      exact hn hj
  · rcases at1 h with ⟨k, o1, b2, o', e1, e2, e3, e4⟩ | ⟨hn, h⟩
    · cases e4
      exact e.pp i b1 o' e3
    · exact e.pp i b1 o h
  · rcases at1 h with ⟨k, o1, b1, o', _, _, _, e4⟩ | ⟨_, h⟩
    · cases e4
    · obtain ⟨h1, h2, h3⟩ := e.ss i x h
      exact ⟨h1, h2.mo m, h3⟩
  · refine b a o (fun z => ?_) (e.ext a o n h)
    obtain ⟨j, hj, ⟨bj, oj, qj⟩, rfl⟩ := inA a z
    have := e.pp j bj oj qj
    cases bj with
    | true => exact n (List.mem_of_getElem? this)
    | false =>
      rw [if_neg (by decide)] at this
      rw [this] at h
      cases h
  · by_cases z : a ∈ js.map ad
    · obtain ⟨i, hi, rfl⟩ := List.mem_iff_getElem.mp z
      have hlen := mo.len
      obtain ⟨o, ho⟩ : ∃ o, os'[i]? = some o := ⟨os'[i], List.getElem?_eq_getElem (by omega)⟩
      have := mo.at_ i _ o (List.getElem?_eq_getElem hi) ho
      cases o with
      | lst ds => obtain ⟨xs, h, _⟩ := this; exact ⟨_, h⟩
      | dic ds => obtain ⟨xs, h, _⟩ := this; exact ⟨_, h⟩
      | ins c gs => obtain ⟨C, dx, fs, _, h, _⟩ := this; exact ⟨_, h⟩
    · obtain ⟨o, ho⟩ := e.pex a ha
      exact ⟨o, b a o z ho⟩
/-- arguments: at first the things at js -/
def EvAm (W : Wd) (E : SK) (js : List Nat) (ta : TA) (m : M (List Dat)) : Prop :=
  ∀ (ps : List Addr) (pn : List (Pn W)) (ad : Nat → Addr) (g : Frm) (σ : L2.St) (H0 H : Hp) (r : R (List Dat)) (Q : List V → Hp → Prop), (∀ j ∈ js, Own g j) → m g = some r → EnvD W ps pn ad g σ H0 H → XO W E ps pn ad g σ H0 H r →
    (∀ ds g', r = .ok ds g' → ∀ us H', EnvD W ps pn ad g' σ H0 H' → Kp ad g H g' H' → DDs W H' us ds → Q (js.map (fun j => V.ref (ad j)) ++ us) H') → ta σ H Q
theorem am_nil {ta : TA} {m : M (List Dat)} (h : EvA W E ta m) : EvAm W E [] ta m := fun ps pn ad g σ H0 H r Q _ hm e x k => h ps pn ad g σ H0 H r Q hm e x k
theorem am_cons {j : Nat} {js : List Nat} {ta : TA} {m : M (List Dat)} (h : EvAm W E js ta m) : EvAm W E (j :: js) (tCons (tVar j) ta) m := fun ps pn ad g σ H0 H r Q ho hm e x k => by
  obtain ⟨b, o, hj⟩ := ho j List.mem_cons_self
  refine ⟨_, (e.sm j b o hj).1, h ps pn ad g σ H0 H r _ (fun j hj => ho j (List.mem_cons_of_mem _ hj)) hm e x fun ds g' z us H' e' k' d => ?_⟩
  exact k ds g' z us H' e' k' d
theorem DDs.map_ref (js : List Nat) (ad : Nat → Addr) : js.map (fun j => V.ref (ad j)) = (js.map ad).map V.ref := by rw [List.map_map]; rfl
theorem ev_callX {k ar : Nat} {F : FM} {E1 : XK} {js : List Nat} {dvs : List V} {dd : List Dat} {ta : TA} {m : M (List Dat)} (nd : js.Nodup) (hk : js.length = k) (hd : ∀ H, DDs W H dvs dd) (har : ∀ ds g g', m g = some (.ok ds g') → k + (ds.length + dd.length) = ar)
    (h : EvAm W E js ta m) (hE : ∀ cls d σ H, E σ cls d H → E1 cls d H) (hE2 : ∀ cls d σ H, E1 cls d H → E σ cls d H) : EvE W E (tCall (spF W k ar F) dvs E1 ta) (mCall js F dd m) := fun ps pn ad g σ H0 H r Q hm e x kk => by
  unfold mCall at hm
  split at hm
  · rename_i how
    have ow : ∀ j ∈ js, Own g j := fun j hj => ownB_own (List.all_eq_true.mp how j hj)
    rcases bnd_some hm with ⟨ds, g1, h1, h2⟩ | ⟨c, w, g1, h1, h2⟩
    · refine h ps pn ad g σ H0 H _ _ ow h1 e (fun c w g'' z => by cases z) fun ds' g'' z us H1 e1 k1 d1 => ?_
      cases z
      split at h2
      · cases h2
      · rename_i os hos
        obtain ⟨l1, a1⟩ := getMs_at hos
        have mo : MOs W H1 (js.map ad) os := ⟨by rw [List.length_map, l1], fun i a o ha ho => by
          rw [List.getElem?_map] at ha
          obtain ⟨j, hj, rfl⟩ := Option.map_eq_some_iff.mp ha
          obtain ⟨b, q⟩ := a1 i j o hj ho
          exact (e1.sm j b o q).2⟩
        have ow1 : ∀ j ∈ js, Own g1 j := fun j hj => by
          obtain ⟨i, hi, rfl⟩ := List.mem_iff_getElem.mp hj
          obtain ⟨b, q⟩ := a1 i _ os[i] (List.getElem?_eq_getElem hi) (List.getElem?_eq_getElem (by omega))
          exact ⟨b, _, q⟩
        have nda : (js.map ad).Nodup := by
          have go : ∀ l : List Nat, l.Nodup → (∀ j ∈ l, Own g1 j) → (l.map ad).Nodup := by
            intro l
            induction l with
            | nil => intro _ _; exact List.nodup_nil
            | cons j l ih =>
              intro n o
              obtain ⟨n1, n2⟩ := List.nodup_cons.mp n
              refine List.nodup_cons.mpr ⟨fun z => ?_, ih n2 fun i hi => o i (List.mem_cons_of_mem _ hi)⟩
              obtain ⟨i, hi, ei⟩ := List.mem_map.mp z
              rw [e1.inj i j (o i (List.mem_cons_of_mem _ hi)) (o j List.mem_cons_self) ei] at hi
              exact n1 hi
          exact go js nd ow1
        cases hF : F os (ds ++ dd) with
        | none => rw [hF] at h2; cases h2
        | some rf =>
          rw [hF] at h2
          refine ⟨js.map ad, os, us ++ dvs, ds ++ dd, rf, by rw [DDs.map_ref, List.append_assoc], by rw [List.length_map, hk], by rw [List.length_append]; exact har ds g g1 h1, nda, mo, d1.app (hd H1), hF, fun d os' z v H' b mo' dv => ?_, fun c w os' z C dx H' hc b mo' xv => ?_⟩
          · subst z
            dsimp only at h2
            split at h2
            · rename_i hl
              cases h2
              obtain ⟨e2, k2⟩ := e1.call nd ow1 hl b mo'
              exact kk _ _ rfl v H' e2 (k1.trans k2) dv
            · cases h2
          · subst z
            dsimp only at h2
            split at h2
            · rename_i hl
              cases h2
              obtain ⟨e2, k2⟩ := e1.call nd ow1 hl b mo'
              exact hE _ _ σ _ (x _ _ _ rfl C dx H' hc e2 (k1.trans k2) xv)
            · cases h2
    · subst h2
      exact h ps pn ad g σ H0 H _ _ ow h1 e (fun c' w' g'' z => by cases z; exact x _ _ _ rfl) fun ds' g'' z => by cases z
  · cases hm
theorem okF_some {F : FM} {os : List MO} {ds : List Dat} {r : RF} (h : okF F os ds = some r) : ∃ d os', r = .ok d os' ∧ F os ds = some (.ok d os') := by
  unfold okF at h
  split at h
  · rename_i d os' e
    cases h
    exact ⟨d, os', rfl, e⟩
  · cases h
/-- .. where nothing is raised -/
theorem ev_call0 {k ar : Nat} {F : FM} {E1 : XK} {js : List Nat} {dvs : List V} {dd : List Dat} {ta : TA} {m : M (List Dat)} (nd : js.Nodup) (hk : js.length = k) (hd : ∀ H, DDs W H dvs dd) (har : ∀ ds g g', m g = some (.ok ds g') → k + (ds.length + dd.length) = ar)
    (h : EvAm W E js ta m) : EvE W E (tCall (spF W k ar F) dvs E1 ta) (mCall js (okF F) dd m) := fun ps pn ad g σ H0 H r Q hm e x kk => by
  unfold mCall at hm
  split at hm
  · rename_i how
    have ow : ∀ j ∈ js, Own g j := fun j hj => ownB_own (List.all_eq_true.mp how j hj)
    rcases bnd_some hm with ⟨ds, g1, h1, h2⟩ | ⟨c, w, g1, h1, h2⟩
    · refine h ps pn ad g σ H0 H _ _ ow h1 e (fun c w g'' z => by cases z) fun ds' g'' z us H1 e1 k1 d1 => ?_
      cases z
      split at h2
      · cases h2
      · rename_i os hos
        obtain ⟨l1, a1⟩ := getMs_at hos
        have mo : MOs W H1 (js.map ad) os := ⟨by rw [List.length_map, l1], fun i a o ha ho => by
          rw [List.getElem?_map] at ha
          obtain ⟨j, hj, rfl⟩ := Option.map_eq_some_iff.mp ha
          obtain ⟨b, q⟩ := a1 i j o hj ho
          exact (e1.sm j b o q).2⟩
        have ow1 : ∀ j ∈ js, Own g1 j := fun j hj => by
          obtain ⟨i, hi, rfl⟩ := List.mem_iff_getElem.mp hj
          obtain ⟨b, q⟩ := a1 i _ os[i] (List.getElem?_eq_getElem hi) (List.getElem?_eq_getElem (by omega))
          exact ⟨b, _, q⟩
        have nda : (js.map ad).Nodup := by
          have go : ∀ l : List Nat, l.Nodup → (∀ j ∈ l, Own g1 j) → (l.map ad).Nodup := by
            intro l
            induction l with
            | nil => intro _ _; exact List.nodup_nil
            | cons j l ih =>
              intro n o
              obtain ⟨n1, n2⟩ := List.nodup_cons.mp n
              refine List.nodup_cons.mpr ⟨fun z => ?_, ih n2 fun i hi => o i (List.mem_cons_of_mem _ hi)⟩
              obtain ⟨i, hi, ei⟩ := List.mem_map.mp z
              rw [e1.inj i j (o i (List.mem_cons_of_mem _ hi)) (o j List.mem_cons_self) ei] at hi
              exact n1 hi
          exact go js nd ow1
        cases hF : okF F os (ds ++ dd) with
        | none => rw [hF] at h2; cases h2
        | some rf =>
          rw [hF] at h2
          obtain ⟨d0, os0, rfl, hF'⟩ := okF_some hF
          refine ⟨js.map ad, os, us ++ dvs, ds ++ dd, _, by rw [DDs.map_ref, List.append_assoc], by rw [List.length_map, hk], by rw [List.length_append]; exact har ds g g1 h1, nda, mo, d1.app (hd H1), hF', fun d os' z v H' b mo' dv => ?_, fun c w os' z => by cases z⟩
          cases z
          dsimp only at h2
          split at h2
          · rename_i hl
            cases h2
            obtain ⟨e2, k2⟩ := e1.call nd ow1 hl b mo'
            exact kk _ _ rfl v H' e2 (k1.trans k2) dv
          · cases h2
    · subst h2
      exact h ps pn ad g σ H0 H _ _ ow h1 e (fun c' w' g'' z => by cases z; exact x _ _ _ rfl) fun ds' g'' z => by cases z
  · cases hm
end
/-- how many are told -/
def LenIs (n : Nat) (m : M (List Dat)) : Prop := ∀ ds g g', m g = some (.ok ds g') → ds.length = n
theorem len_nil : LenIs 0 mNil := fun ds g g' h => by cases h; rfl
theorem len_cons {n : Nat} {a : M Dat} {r : M (List Dat)} (h : LenIs n r) : LenIs (n + 1) (mCons a r) := fun ds g g' q => by
  rcases bnd_some q with ⟨x, g1, h1, h2⟩ | ⟨c, w, g1, h1, h2⟩
  · rcases bnd_some h2 with ⟨xs, g2, h3, h4⟩ | ⟨c, w, g2, h3, h4⟩
    · cases h4
      rw [List.length_cons, h xs _ _ h3]
    · cases h4
  · cases h2
abbrev PVAm (X : Cx) (at_ : Addr → Nat) (E : SK) (js : List Nat) (es : List Expr) (n : Nat) (m : M (List Dat)) : Prop := ∃ ta, PA X es ta ∧ EvAm (Wx X at_) E js ta m ∧ LenIs n m
section
variable {X : Cx} {at_ : Addr → Nat} {E : SK} {E1 : XK} {CX : CXT} {j k kk ar n : Nat} {F : FM} {js : List Nat} {x : Str} {p pos : Pos} {e : Expr} {es : List Expr} {m : M (List Dat)}
theorem c_nil (h : PVA X at_ E es m) (hn : LenIs n m) : PVAm X at_ E [] es n m := let ⟨_, p, v⟩ := h; ⟨_, p, am_nil v, hn⟩
theorem c_cons {i : Nat} (hp : PE X e (tVar i)) (h : PVAm X at_ E js es n m) (hs : starEach (e :: es) X.env = (false, eval e X.env) :: starEach es X.env := by rfl) : PVAm X at_ E (i :: js) (e :: es) n m := let ⟨_, p, v, l⟩ := h; ⟨_, pa_cons hp p hs, am_cons v, l⟩
/-- f(..), nothing raised -/
theorem q_cG0 (c : CalG X.prog X.w X.K X.mg X.base CX k x (spF (Wx X at_) kk ar F)) (hr : RmG j X.A) (hk : k ≤ j) (hx : Passes CX X E1) (nd : js.Nodup) (hj : js.length = kk) (ha : PVAm X at_ E js (e :: es) n m) (hn : kk + (n + 0) = ar) (hg : Gl X x := by rfl)
    (hdb : (x == ("__debug__" : Str)) = false := by decide) (he : starEach (e :: es) X.env = (false, eval e X.env) :: starEach es X.env := by rfl) (hpl : (backTo pos (starEach es X.env)).any (·.1) = false := by rfl) : PV X at_ E (.Call (.Name x p) (e :: es) [] pos) (mCall js (okF F) [] m) :=
  let ⟨_, p1, v1, l1⟩ := ha; ⟨_, pe_cG (E := E1) c hr hk hx p1 hg hdb he hpl, ev_call0 nd hj (fun _ => .nil) (fun ds g g' h => by rw [l1 ds g g' h]; exact hn) v1⟩
theorem q_cO0 (c : CalO X.prog X.w X.K X.mg X.base CX k x (spF (Wx X at_) kk ar F)) (hr : Room j X.A) (hk : k ≤ j) (hx : Passes CX X E1) (nd : js.Nodup) (hj : js.length = kk) (ha : PVAm X at_ E js (e :: es) n m) (hn : kk + (n + 0) = ar) (hg : Gl X x := by rfl)
    (hdb : (x == ("__debug__" : Str)) = false := by decide) (he : starEach (e :: es) X.env = (false, eval e X.env) :: starEach es X.env := by rfl) (hpl : (backTo pos (starEach es X.env)).any (·.1) = false := by rfl) : PV X at_ E (.Call (.Name x p) (e :: es) [] pos) (mCall js (okF F) [] m) :=
  let ⟨_, p1, v1, l1⟩ := ha; ⟨_, pe_cO (E := E1) c hr hk hx p1 hg hdb he hpl, ev_call0 nd hj (fun _ => .nil) (fun ds g g' h => by rw [l1 ds g g' h]; exact hn) v1⟩
/-- .. that may raise -/
theorem q_cOX (c : CalO X.prog X.w X.K X.mg X.base CX k x (spF (Wx X at_) kk ar F)) (hr : Room j X.A) (hk : k ≤ j) (hx : Passes CX X E1) (nd : js.Nodup) (hj : js.length = kk) (ha : PVAm X at_ (fun _ => E1) js (e :: es) n m) (hn : kk + (n + 0) = ar) (hg : Gl X x := by rfl)
    (hdb : (x == ("__debug__" : Str)) = false := by decide) (he : starEach (e :: es) X.env = (false, eval e X.env) :: starEach es X.env := by rfl) (hpl : (backTo pos (starEach es X.env)).any (·.1) = false := by rfl) : PV X at_ (fun _ => E1) (.Call (.Name x p) (e :: es) [] pos) (mCall js F [] m) :=
  let ⟨_, p1, v1, l1⟩ := ha; ⟨_, pe_cO (E := E1) c hr hk hx p1 hg hdb he hpl, ev_callX nd hj (fun _ => .nil) (fun ds g g' h => by rw [l1 ds g g' h]; exact hn) v1 (fun _ _ _ _ h => h) (fun _ _ _ _ h => h)⟩
end
/-! ### a def -/
section
variable {P : Program} {w : World} {K : PySem.W.Frag} {mg : Str → Option Value} {base : Heap} {at_ : Addr → Nat} {x qual : Str} {params : Arguments} {body : List Stmt} {scope : Scope} {dvs : List V} {kws : List (Str × V)} {f : Addr} {fd : FuncData} {N ps : List Str} {k kk : Nat} {mb : M Fl}
/-- a law's def (nothing leaves it) -/
theorem fnGm (F : FunD K x qual params body scope dvs kws f fd) (S : FnScope N ps scope) (hn : ps.length ≤ N.length)
    (hbody : ∀ (cdv : Value) (A : Around) (outer : List Env) (s : Shared) (H : Hp) (E : XK), RmG k (A.deeper (envOfC qual scope s.heap.objs.size f cdv)) → PVB (cxOf CX0 P w K mg base N qual scope f cdv A outer s H E).nox at_ (fun _ => E) body mb) :
    FnG P w K mg base CX0 (k + 1) f fd ps (spF ⟨K, mg, at_⟩ kk ps.length (runF kk N.length mb)) :=
  fnG0 F S (fun vs H Q E h => spF_len h) fun cdv A outer s H vs Q E hr h => let ⟨t, h1, h2⟩ := hbody cdv A outer s H E hr; ⟨t, h1, body_run h2 hn h⟩
/-- a def of the program that raises nothing -/
theorem fnOm (F : FunD K x qual params body scope dvs kws f fd) (S : FnScope N ps scope) (hn : ps.length ≤ N.length)
    (hbody : ∀ (cdv : Value) (A : Around) (outer : List Env) (s : Shared) (H : Hp) (E : XK), Room k (A.deeper (envOfC qual scope s.heap.objs.size f cdv)) → PVB (cxOf CX0 P w K mg base N qual scope f cdv A outer s H E).nox at_ (fun _ => E) body mb) :
    FnOk P w K mg base CX0 (k + 1) f fd ps (spF ⟨K, mg, at_⟩ kk ps.length (runF kk N.length mb)) :=
  fnO0 F S (fun vs H Q E h => spF_len h) fun cdv A outer s H vs Q E hr h => let ⟨t, h1, h2⟩ := hbody cdv A outer s H E hr; ⟨t, h1, body_run h2 hn h⟩
/-- .. that may raise -/
theorem fnXm (F : FunD K x qual params body scope dvs kws f fd) (S : FnScope N ps scope) (hn : ps.length ≤ N.length)
    (hbody : ∀ (cdv : Value) (A : Around) (outer : List Env) (s : Shared) (H : Hp) (E : XK), Room k (A.deeper (envOfC qual scope s.heap.objs.size f cdv)) → PVB (cxOf (L2.CX P w) P w K mg base N qual scope f cdv A outer s H E) at_ (fun _ => E) body mb) :
    FnOk P w K mg base (L2.CX P w) (k + 1) f fd ps (spF ⟨K, mg, at_⟩ kk ps.length (runF kk N.length mb)) :=
  F.ok S (fun vs H Q E h => spF_len h) fun cdv A outer s H vs Q E hr h => let ⟨t, h1, h2⟩ := hbody cdv A outer s H E hr; ⟨t, h1, body_run h2 hn h⟩
end
end DL

set_option Elab.async false
set_option linter.all false
set_option maxRecDepth 100000
set_option maxHeartbeats 4000000
/-! D7: kinds, in, slices, texts' methods; lists and dicts that change. -/
namespace DL
open PySem PySem.Spec PyProof.Rows L2 GX
/-! ### isinstance -/
def tyName : Dat → Option String
  | .non => some "NoneType" | .bl _ => some "bool" | .int _ => some "int" | .str _ => some "str" | .lst _ => some "list" | .tup _ _ => some "tuple" | .dic _ => some "dict"
  | .obj _ _ | .exc _ _ => none
def IsiOk (W : Wd) (c : V) (pb : Dat → Option Bool) : Prop := ∀ (H : Hp) (v : V) (d : Dat) (b : Bool) (Q : VK), pb d = some b → DD W H v d → Q (.bl b) H → rIsiA W.K [v, c] H Q
def mIsi (pb : Dat → Option Bool) (m : M Dat) : M Dat := mUn (fun d => (pb d).map Dat.bl) m
section
variable {W : Wd} {E : SK}
theorem tyX_dd {H : Hp} {v : V} {d : Dat} {t : String} (h : DD W H v d) (e : tyName d = some t) : TyX W.K H v (.type t) := by
  cases h with
  | non => cases e; exact .base .non
  | bl b => cases e; exact .base (.bl b)
  | int i => cases e; exact .base (.int i)
  | str x => cases e; exact .base (.str x)
  | lst h a => cases e; exact .base (.frz h)
  | tup h _ a =>
    cases e
    rcases h with (h | ⟨o, h⟩) | ⟨o, its, n, h, hc, _⟩
    · exact .base (.tup h)
    · exact .fTuple h
    · exact .kTuple h hc
  | dic h a => cases e; exact .fDict h
  | obj h1 h2 h3 a => cases e
  | exc h1 h2 a => cases e
theorem isi_ty (n : String) : IsiOk W (.ty n) (fun d => (tyName d).bind fun t => kitB t n) := fun H v d b Q h hv q => by
  obtain ⟨t, h1, h2⟩ := Option.bind_eq_some_iff.mp h
  exact .inl ⟨v, _, _, _, b, rfl, .ty n, tyX_dd hv h1, kit_ty h2, q⟩
theorem ev_isi {c : V} {pb : Dat → Option Bool} {te : TE} {m : M Dat} (hb : IsiOk W c pb) (h : EvE W E te m) : EvE W E (tCB (rIsiA W.K) (tCons te (tCons (tC c) tNil))) (mIsi pb m) := fun ps pn ad g σ H0 H r Q hm e x k =>
  h.go hm e x fun d g1 v H1 f1 e1 k1 r1 x1 => by
    obtain ⟨z, hz, rfl⟩ := lift_some f1
    obtain ⟨b, hb', rfl⟩ := Option.map_eq_some_iff.mp hz
    exact hb H1 v d b Q hb' r1 (k _ _ rfl _ H1 e1 k1 (.bl b))
end
section
variable {X : Cx} {at_ : Addr → Nat} {E : SK} {e c : Expr} {p pos : Pos} {m : M Dat}
theorem q_isi {cv : V} {pb : Dat → Option Bool} (hb : IsiOk (Wx X at_) cv pb) (hm : X.mg "isinstance" = none) (h : PV X at_ E e m) (hc : PE X c (tC cv)) (hg : Gl X "isinstance" := by rfl)
    (he : starEach [e, c] X.env = (false, eval e X.env) :: starEach [c] X.env := by rfl) (he2 : starEach [c] X.env = (false, eval c X.env) :: starEach [] X.env := by rfl) (hp : (backTo pos (starEach [c] X.env)).any (·.1) = false := by rfl) :
    PV X at_ E (.Call (.Name "isinstance" p) [e, c] [] pos) (mIsi pb m) := let ⟨_, p1, v1⟩ := h; ⟨_, pe_callB call_isiA hg hm bt_isinstance (pa_cons p1 (pa_cons hc pa_nil he2) he) (by decide) (by decide) he hp, ev_isi hb v1⟩
end

/-! ### in -/
def vOf : Dat → V
  | .bl b => .bl b | .int i => .int i | .str x => .str x | _ => .non
def flatD : Dat → Bool
  | .non | .bl _ | .int _ | .str _ => true
  | _ => false
def seqD : Dat → Option (List Dat)
  | .lst xs | .tup _ xs => some xs
  | _ => none
def inB (x y : Dat) : Option Bool := match y with
  | .lst ys | .tup _ ys => if flatD x && ys.all flatD then some (ys.any fun z => eqV (vOf z) (vOf x)) else none
  | .str j => match x with
    | .str i => some (!(Builtin.Str.occurrences j i 0 j.length 1).isEmpty)
    | _ => none
  | _ => none
def inF (x y : Dat) : Option Dat := (inB x y).map Dat.bl
def ninF (x y : Dat) : Option Dat := (inB x y).map fun b => Dat.bl (!b)
def rInZ (K : PySem.W.Frag) (neg : Bool) : R2 := fun x y H Q => rIn K neg x y H Q ∨ (∃ i j, x = .str i ∧ y = .str j ∧ Q (.bl (if neg = true then !(!(Builtin.Str.occurrences j i 0 j.length 1).isEmpty) else !(Builtin.Str.occurrences j i 0 j.length 1).isEmpty)) H)
theorem op_inZ {X : Cx} : OpR X (compareOp .In) (rInZ X.K false) := GX.OpR.or op_in_seq op_in_str
theorem op_ninZ {X : Cx} : OpR X (compareOp .NotIn) (rInZ X.K true) := GX.OpR.or op_notIn_seq op_notin_str
section
variable {W : Wd}
theorem dd_flat {H : Hp} {v : V} {d : Dat} (h : DD W H v d) (f : flatD d = true) : v = vOf d ∧ flatV v = true := by
  cases h <;> first | exact ⟨rfl, rfl⟩ | cases f
theorem dds_flat {H : Hp} : ∀ {vs : List V} {ds : List Dat}, DDs W H vs ds → ds.all flatD = true → vs = ds.map vOf ∧ vs.all flatV = true
  | _, _, .nil, _ => ⟨rfl, rfl⟩
  | _, _, .cons a b, h => by
    rw [List.all_cons, Bool.and_eq_true] at h
    obtain ⟨h1, h2⟩ := dd_flat a h.1
    obtain ⟨h3, h4⟩ := dds_flat b h.2
    refine ⟨by rw [h1, h3]; rfl, ?_⟩
    rw [List.all_cons, h2, h4]
    rfl
theorem inV_eq {x : Dat} {ys : List Dat} : inV (vOf x) (ys.map vOf) = ys.any fun z => eqV (vOf z) (vOf x) := by
  unfold inV
  rw [List.any_map]
  rfl
theorem r_inZ (neg : Bool) : R2Ok W (rInZ W.K neg) (fun x y => (inB x y).map fun b => Dat.bl (if neg = true then !b else b)) := fun H v w x y z Q h hx hy k => by
  obtain ⟨b, hb, rfl⟩ := Option.map_eq_some_iff.mp h
  cases y <;> try cases hb
  · rename_i j
    cases x <;> try cases hb
    rename_i i
    cases dd_str hx
    cases dd_str hy
    exact .inr ⟨i, j, rfl, rfl, k _ _ (Same.rf H) (.bl _)⟩
  · obtain ⟨a, o, xs, rfl, ha, da⟩ := dd_lst hy
    simp only [inB] at hb
    split at hb
    · rename_i hc
      obtain ⟨h1, h2⟩ := He.ba hc
      cases hb
      obtain ⟨e1, f1⟩ := dd_flat hx h1
      obtain ⟨e2, f2⟩ := dds_flat da h2
      refine .inl ⟨a, xs, rfl, .inl (.inl (.inr ⟨o, ha⟩)), f1, f2, ?_⟩
      rw [e1, e2, inV_eq]
      exact k _ _ (Same.rf H) (.bl _)
    · cases hb
  · obtain ⟨a, xs, rfl, ha, da⟩ := dd_tup hy
    simp only [inB] at hb
    split at hb
    · rename_i hc
      obtain ⟨h1, h2⟩ := He.ba hc
      cases hb
      obtain ⟨e1, f1⟩ := dd_flat hx h1
      obtain ⟨e2, f2⟩ := dds_flat da h2
      refine .inl ⟨a, xs, rfl, .inr ha, f1, f2, ?_⟩
      rw [e1, e2, inV_eq]
      exact k _ _ (Same.rf H) (.bl _)
    · cases hb
theorem r_in : R2Ok W (rInZ W.K false) inF := r_inZ false
theorem r_nin : R2Ok W (rInZ W.K true) ninF := r_inZ true
end

/-! ### slices -/
def cutS' (ds : List Dat) (lo hi : Option Int) : List Dat := (ds.drop (HT.sIx ds.length 0 lo)).take (HT.sIx ds.length ds.length hi - HT.sIx ds.length 0 lo)
def sliceF (x : Dat) (lo hi : Option Int) : Option Dat := match x with
  | .tup _ xs => some (.tup false (cutS' xs lo hi))
  | .lst xs => some (.lst (cutS' xs lo hi))
  | .str z => if z.length ≤ sizeLine then some (.str (cutS z lo hi)) else none
  | _ => none
def rSlZ (K : PySem.W.Frag) : V → Option Int → Option Int → Hp → VK → Prop := fun x lo hi H Q => rSlA K x lo hi H Q ∨ rSlS x lo hi H Q ∨ rSlL K x lo hi H Q
theorem sl_Z {X : Cx} : SlR X (rSlZ X.K) := GX.SlR.or sl_tupA (GX.SlR.or sl_str sl_list)
section
variable {W : Wd} {E : SK}
theorem r_slice {H : Hp} {v : V} {x z : Dat} {lo hi : Option Int} {Q : VK} (h : sliceF x lo hi = some z) (hx : DD W H v x) (k : ∀ u H', Same H H' → DD W H' u z → Q u H') : rSlZ W.K v lo hi H (FzQ Q) := by
  cases x <;> try cases h
  · rename_i s
    cases dd_str hx
    simp only [sliceF] at h
    split at h
    · rename_i hl
      cases h
      exact .inr (.inl ⟨s, rfl, hl, .inl (k _ _ (Same.rf H) (.str _))⟩)
    · cases h
  · obtain ⟨a, o, xs, rfl, ha, da⟩ := dd_lst hx
    refine .inr (.inr ⟨a, xs, rfl, .inl (.inr ⟨o, ha⟩), fun p hp => dd_mkL hp ?_ k⟩)
    unfold cutV cutS'
    rw [← da.len]
    exact (da.drop _).take _
  · rename_i ds
    obtain ⟨a, xs, rfl, ha, da⟩ := dd_tup hx
    refine .inl ⟨a, xs, rfl, ha, fun ⟨h1, h2⟩ => ?_, fun _ p hp => .inl (dd_mkT hp ?_ k)⟩
    · have e : cutS' ds lo hi = ds := by
        unfold cutS'
        rw [← da.len, h1, h2, List.drop_zero, Nat.sub_zero, da.len, List.take_length]
      rw [e] at k
      exact .inl (k _ _ (Same.rf H) (.tup ha (fun e => by cases e) da))
    · unfold cutV cutS'
      rw [← da.len]
      exact (da.drop _).take _
def asI : Dat → Option Int
  | .int i => some i
  | _ => none
def mPart (m : M Dat) : M (Option Int) := bnd m fun d => lift ((asI d).map some)
abbrev EvO' (W : Wd) (E : SK) (to : TO) (m : M (Option Int)) : Prop := Ev W E (fun _ b c => b = c) to m
theorem eo_none : EvO' W E tNoPart (ret none) := fun ps pn ad g σ H0 H r Q hm e x k => by cases hm; exact k _ _ rfl none H e Kp.refl rfl
theorem eo_some {te : TE} {m : M Dat} (h : EvE W E te m) : EvO' W E (tPart te) (mPart m) := fun ps pn ad g σ H0 H r Q hm e x k =>
  h.go hm e x fun d g1 v H1 f1 e1 k1 r1 x1 => by
    obtain ⟨z, hz, rfl⟩ := lift_some f1
    cases d <;> try cases hz
    cases dd_int r1
    exact ⟨_, rfl, k _ _ rfl _ H1 e1 k1 rfl⟩
def mSlice (a : M Dat) (lo hi : M (Option Int)) : M Dat := bnd a fun x => bnd lo fun l => bnd hi fun u => lift (sliceF x l u)
theorem ev_slice {te : TE} {tl th : TO} {m : M Dat} {ml mh : M (Option Int)} (h : EvE W E te m) (hl : EvO' W E tl ml) (hh : EvO' W E th mh) : EvE W E (tFzM (tSl (rSlZ W.K) te tl th)) (mSlice m ml mh) := fun ps pn ad g σ H0 H r Q hm e x k =>
  h.go hm e x fun d g1 v H1 f1 e1 k1 r1 x1 => hl.go f1 e1 x1 fun l g2 l' H2 f2 e2 k2 r2 x2 => hh.go f2 e2 x2 fun u g3 u' H3 f3 e3 k3 r3 x3 => by
    subst r2 r3
    obtain ⟨z, hz, rfl⟩ := lift_some f3
    exact r_slice hz ((r1.mo (e1.mo k2)).mo (e2.mo k3)) (endV (rel := fun H v d => DD W H v d) e3 (endK ((k1.trans k2).trans k3) k))
end
section
variable {X : Cx} {at_ : Addr → Nat} {E : SK} {e : Expr} {es : List Expr} {pos p2 : Pos} {m : M Dat} {ml mh : M (Option Int)}
abbrev PVO (X : Cx) (at_ : Addr → Nat) (E : SK) (o : Option Expr) (m : M (Option Int)) : Prop := ∃ t, PO X o t ∧ EvO' (Wx X at_) E t m
theorem o_none : PVO X at_ E none (ret none) := ⟨_, po_none, eo_none⟩
theorem o_some (h : PV X at_ E e m) : PVO X at_ E (some e) (mPart m) := let ⟨_, p, v⟩ := h; ⟨_, po_some p, eo_some v⟩
theorem q_slice {lo hi : Option Expr} (h : PV X at_ E e m) (hl : PVO X at_ E lo ml) (hh : PVO X at_ E hi mh) : PV X at_ E (.Subscript e (.Slice lo hi none p2) pos) (mSlice m ml mh) :=
  let ⟨_, p0, v0⟩ := h; let ⟨_, p1, v1⟩ := hl; let ⟨_, p2, v2⟩ := hh; ⟨_, pe_fzm (pe_slice sl_Z p0 p1 p2), ev_slice v0 v1 v2⟩
def revF : Dat → Option Dat
  | .tup _ xs => some (.tup false xs.reverse)
  | _ => none
end
/-! ### methods of texts -/
def RMOk (W : Wd) (T : String) (r : V → List V → Hp → VK → Prop) (f : Dat → List Dat → Option Dat) : Prop := (∀ (H : Hp) (v : V) (d z : Dat) (ds : List Dat), f d ds = some z → DD W H v d → tyV W.K T v H) ∧
  ∀ (H : Hp) (v : V) (vs : List V) (d z : Dat) (ds : List Dat) (Q : VK), f d ds = some z → DD W H v d → DDs W H vs ds → (∀ u H', Same H H' → DD W H' u z → Q u H') → r v vs H (FzQ Q)
def mMeth (f : Dat → List Dat → Option Dat) (o : M Dat) (a : M (List Dat)) : M Dat := bnd o fun d => bnd a fun ds => lift (f d ds)
def strM0 (f : Str → Option Dat) : Dat → List Dat → Option Dat
  | .str a, [] => f a
  | _, _ => none
def strM1 (f : Str → Str → Option Dat) : Dat → List Dat → Option Dat
  | .str a, [.str b] => f a b
  | _, _ => none
theorem strM0_some {f : Str → Option Dat} {d z : Dat} {ds : List Dat} (h : strM0 f d ds = some z) : ∃ a, d = .str a ∧ ds = [] ∧ f a = some z := by
  unfold strM0 at h
  split at h
  · exact ⟨_, rfl, rfl, h⟩
  · cases h
theorem strM1_some {f : Str → Str → Option Dat} {d z : Dat} {ds : List Dat} (h : strM1 f d ds = some z) : ∃ a b, d = .str a ∧ ds = [.str b] ∧ f a b = some z := by
  unfold strM1 at h
  split at h
  · exact ⟨_, _, rfl, rfl, h⟩
  · cases h
section
variable {W : Wd} {E : SK}
/-- a method of texts: the receiver must be one ahead of the arguments -/
def mMethS (f : Dat → List Dat → Option Dat) (o : M Dat) (a : M (List Dat)) : M Dat := bnd o fun d => match d with
  | .str y => bnd a fun ds => lift (f (.str y) ds)
  | _ => fun _ => none
def RSOk (W : Wd) (r : V → List V → Hp → VK → Prop) (f : Dat → List Dat → Option Dat) : Prop :=
  ∀ (H : Hp) (x : Str) (vs : List V) (z : Dat) (ds : List Dat) (Q : VK), f (.str x) ds = some z → DDs W H vs ds → (∀ u H', Same H H' → DD W H' u z → Q u H') → r (.str x) vs H (FzQ Q)
theorem ev_methS {r : V → List V → Hp → VK → Prop} {f : Dat → List Dat → Option Dat} {to : TE} {ta : TA} {mo : M Dat} {ma : M (List Dat)} (hr : RSOk W r f) (ho : EvE W E to mo) (ha : EvA W E ta ma) : EvE W E (tFzM (tBM W.K "str" r to ta)) (mMethS f mo ma) := fun ps pn ad g σ H0 H q Q hm e x k =>
  ho.go hm e x fun d g1 v H1 f1 e1 k1 r1 x1 => by
    split at f1
    · cases dd_str r1
      refine ⟨rfl, ha.go f1 e1 x1 fun ds g2 us H2 f2 e2 k2 r2 x2 => ?_⟩
      obtain ⟨z, hz, rfl⟩ := lift_some f2
      exact hr H2 _ us z ds Q hz r2 (endV (rel := fun H v d => DD W H v d) e2 (endK (k1.trans k2) k))
    · cases f1
def mMethS0 (f : Dat → List Dat → Option Dat) (o : M Dat) : M Dat := mMethS f o mNil
theorem ev_methS0 {r : V → List V → Hp → VK → Prop} {f : Dat → List Dat → Option Dat} {to : TE} {mo : M Dat} (hr : RSOk W r f) (ho : EvE W E to mo) : EvE W E (tFzM (tBM0 W.K "str" r to)) (mMethS0 f mo) := fun ps pn ad g σ H0 H q Q hm e x k =>
  ho.go hm e x fun d g1 v H1 f1 e1 k1 r1 x1 => by
    split at f1
    · cases dd_str r1
      refine ⟨rfl, ?_⟩
      rcases bnd_some f1 with ⟨ds, g2, h1, h2⟩ | ⟨c, w, g2, h1, h2⟩
      · cases h1
        obtain ⟨z, hz, rfl⟩ := lift_some h2
        exact hr H1 _ [] z [] Q hz .nil (endV (rel := fun H v d => DD W H v d) e1 (endK k1 k))
      · cases h1
    · cases f1
theorem rs0 {r : V → List V → Hp → VK → Prop} {f : Str → Option Dat} (h : ∀ (H : Hp) (a : Str) (z : Dat) (Q : VK), f a = some z → (∀ u H', Same H H' → DD W H' u z → Q u H') → r (.str a) [] H (FzQ Q)) : RSOk W r (strM0 f) := fun H x vs z ds Q hz hd k => by
  obtain ⟨a, e1, rfl, h1⟩ := strM0_some hz
  cases e1
  cases hd
  exact h H _ z Q h1 k
theorem rs1 {r : V → List V → Hp → VK → Prop} {f : Str → Str → Option Dat} (h : ∀ (H : Hp) (a b : Str) (z : Dat) (Q : VK), f a b = some z → (∀ u H', Same H H' → DD W H' u z → Q u H') → r (.str a) [.str b] H (FzQ Q)) : RSOk W r (strM1 f) := fun H x vs z ds Q hz hd k => by
  obtain ⟨a, b, e1, rfl, h1⟩ := strM1_some hz
  cases e1
  obtain ⟨v, rfl, dv⟩ := dds1 hd
  cases dd_str dv
  exact h H _ b z Q h1 k
def isasciiF := strM0 fun a => some (.bl (Txt.isascii a))
def isalphaF := strM0 fun a => some (.bl (Txt.isalpha a))
def islowerF := strM0 fun a => some (.bl (Txt.islower a))
def isdigitF := strM0 fun a => some (.bl (Txt.isdigit a))
def upperF := strM0 fun a => if a.length ≤ 5592405 then some (.str (Txt.upper a)) else none
def startswithF := strM1 fun a b => some (.bl (Txt.startswith a b))
def splitF := strM1 fun a b => if (b.length == 0) = false ∧ a.length + 2 ≤ sizeLine then some (.lst ((Txt.split a b).map Dat.str)) else none
theorem r_bl0 {p : Str → Bool} : RSOk W (fun x xs H Q => ∃ a, x = .str a ∧ xs = [] ∧ True ∧ Q (.bl (p a)) H) (strM0 fun a => some (.bl (p a))) := rs0 fun H a z Q h k => by cases h; exact ⟨a, rfl, rfl, trivial, .inl (k _ _ (Same.rf H) (.bl _))⟩
theorem r_isascii : RSOk W (fun x xs H Q => ∃ a, x = .str a ∧ xs = [] ∧ True ∧ Q (.bl (Txt.isascii a)) H) isasciiF := r_bl0
theorem r_isalpha : RSOk W (fun x xs H Q => ∃ a, x = .str a ∧ xs = [] ∧ True ∧ Q (.bl (Txt.isalpha a)) H) isalphaF := r_bl0
theorem r_islower : RSOk W (fun x xs H Q => ∃ a, x = .str a ∧ xs = [] ∧ True ∧ Q (.bl (Txt.islower a)) H) islowerF := r_bl0
theorem r_isdigit : RSOk W (fun x xs H Q => ∃ a, x = .str a ∧ xs = [] ∧ True ∧ Q (.bl (Txt.isdigit a)) H) isdigitF := r_bl0
theorem r_upper : RSOk W (fun x xs H Q => ∃ a, x = .str a ∧ xs = [] ∧ a.length ≤ 5592405 ∧ Q (.str (Txt.upper a)) H) upperF := rs0 fun H a z Q h k => by
  split at h
  · rename_i hl
    cases h
    exact ⟨a, rfl, rfl, hl, .inl (k _ _ (Same.rf H) (.str _))⟩
  · cases h
theorem r_startswith : RSOk W (fun x xs H Q => ∃ a b, x = .str a ∧ xs = [.str b] ∧ Q (.bl (Txt.startswith a b)) H) startswithF := rs1 fun H a b z Q h k => by cases h; exact ⟨a, b, rfl, rfl, .inl (k _ _ (Same.rf H) (.bl _))⟩
theorem r_split : RSOk W (fun x xs H Q => ∃ a b, x = .str a ∧ xs = [.str b] ∧ (b.length == 0) = false ∧ a.length + 2 ≤ sizeLine ∧ rNewStrs (Txt.split a b) H Q) splitF := rs1 fun H a b z Q h k => by
  split at h
  · rename_i hl
    cases h
    exact ⟨a, b, rfl, rfl, hl.1, hl.2, fun p hp => dd_mkL hp (dds_strs _) k⟩
  · cases h
end
section
variable {X : Cx} {at_ : Addr → Nat} {E : SK} {o e : Expr} {es : List Expr} {name : Str} {apos cpos : Pos} {id : String} {r : V → List V → Hp → VK → Prop} {f : Dat → List Dat → Option Dat} {mo : M Dat} {ma : M (List Dat)}
theorem q_meth (hf : RSOk (Wx X at_) r f) (sl : Slot "str" name id) (ty : typeOf (Value.builtin id) = pure (Value.type "method_descriptor")) (hm : MtR X id r) (ho : PV X at_ E o mo) (ha : PVA X at_ E (e :: es) ma) (hb : attributeBase o name X.env (eval o X.env) = eval o X.env := by rfl)
    (h2 : (((backTo cpos (starEach (e :: es) X.env)).all fun x => !x.fst) && ((backToKw cpos (keywordEach [] X.env)).all fun x => x.fst.isSome) && decide (((e :: es).length + ([] : List Keyword).length + if ([] : List Keyword).isEmpty = true then 0 else 1) < 30)) = true := by rfl) (h3 : (apos.endLine == cpos.line) = true := by rfl)
    (h4 : starEach (e :: es) X.env = (false, eval e X.env) :: starEach es X.env := by rfl) (h5 : (backTo cpos (starEach es X.env)).any (fun x => x.fst) = false := by rfl) : PV X at_ E (.Call (.Attribute o name apos) (e :: es) [] cpos) (mMethS f mo ma) :=
  let ⟨_, p1, v1⟩ := ho; let ⟨_, p2, v2⟩ := ha; ⟨_, pe_fzm (pe_bm PySem.F.plainAttrs_str sl ty hm p1 p2 hb h2 h3 h4 h5), ev_methS hf v1 v2⟩
theorem q_meth0 (hf : RSOk (Wx X at_) r f) (sl : Slot "str" name id) (ty : typeOf (Value.builtin id) = pure (Value.type "method_descriptor")) (hm : MtR X id r) (ho : PV X at_ E o mo) (hb : attributeBase o name X.env (eval o X.env) = eval o X.env := by rfl) (h3 : (apos.endLine == cpos.line) = true := by rfl) :
    PV X at_ E (.Call (.Attribute o name apos) [] [] cpos) (mMethS0 f mo) :=
  let ⟨_, p1, v1⟩ := ho; ⟨_, pe_fzm (pe_bm0 PySem.F.plainAttrs_str sl ty hm p1 hb h3), ev_methS0 hf v1⟩
end
end DL

set_option Elab.async false
set_option linter.all false
set_option maxRecDepth 100000
set_option maxHeartbeats 4000000
/-! D8: lists and dicts of a frame that change. -/
namespace DL
open PySem PySem.Spec PyProof.Rows L2 GX
def setM (i : Nat) (o : MO) : M Unit := fun g => match g[i]? with
  | some (.m true _) => none
  | some (.s _) => none
  | some _ => some (.ok () (g.set i (.m false o)))
  | none => none
def mOwn (i : Nat) (m : M MO) : M Fl := bnd m fun o => bnd (setM i o) fun _ => ret .nx
section
variable {W : Wd} {E : SK} {ps : List Addr} {pn : List (Pn W)} {ad : Nat → Addr} {g g' : Frm} {σ : L2.St} {H0 H H1 H' : Hp}
theorem setM_ok {i : Nat} {o : MO} {r : R Unit} (h : setM i o g = some r) : r = .ok () (g.set i (.m false o)) ∧ i < g.length ∧ ∀ o', g[i]? ≠ some (Sl.m true o') := by
  unfold setM at h
  split at h
  · cases h
  · cases h
  · rename_i s hn _ hs
    cases h
    exact ⟨rfl, (List.getElem?_eq_some_iff.mp hs).1, fun o' z => hn o' (by rw [hs] at z; exact Option.some.inj z)⟩
  · cases h
theorem bnd_setM {β : Type} {i : Nat} {o : MO} {f : Unit → M β} {r : R β} (h : bnd (setM i o) f g = some r) : (setM i o g = some (.ok () (g.set i (.m false o)))) ∧ f () (g.set i (.m false o)) = some r := by
  rcases bnd_some h with ⟨a, g', h1, h2⟩ | ⟨c, w, g', h1, h2⟩
  · obtain ⟨e, _⟩ := setM_ok h1
    cases e
    exact ⟨h1, h2⟩
  · obtain ⟨e, _⟩ := setM_ok h1
    cases e
theorem EnvD.setM {i : Nat} {o : MO} {p : Addr} {r : R Unit} (e : EnvD W ps pn ad g σ H0 H) (h : setM i o g = some r) (h0 : H0 p = none) (hn : ∀ j, Own g j → ad j ≠ p) (mo : MOk W H p o) :
    EnvD W ps pn (fun j => if j = i then p else ad j) (g.set i (.m false o)) (σ.set i (some (.ref p))) H0 H := by
  obtain ⟨_, hi, nt⟩ := setM_ok h
  have own : ∀ (j : Nat) (b : Bool) (o' : MO), (g.set i (Sl.m false o))[j]? = some (Sl.m b o') → (j = i ∧ b = false ∧ o' = o) ∨ (i ≠ j ∧ g[j]? = some (Sl.m b o')) := fun j b o' q => by
    by_cases hj : i = j
    · subst hj
      rw [List.getElem?_set_self hi] at q
      cases q
      exact .inl ⟨rfl, rfl, rfl⟩
    · rw [List.getElem?_set_ne hj] at q
      exact .inr ⟨hj, q⟩
  refine ⟨by rw [List.length_set, List.length_set, e.len], fun j y q => ?_, fun j b o' q => ?_, fun j b o' q => ?_, fun j y q => ?_, fun j k hj hk ee => ?_, e.ext, e.pin, e.pex⟩
  · by_cases hj : i = j
    · subst hj
      rw [List.getElem?_set_self hi] at q
      cases q
    · rw [List.getElem?_set_ne hj] at q ⊢
      exact e.sd j y q
  · rcases own j b o' q with ⟨rfl, rfl, rfl⟩ | ⟨hj, q⟩
    · rw [if_pos rfl, List.getElem?_set_self (by rw [e.len]; exact hi)]
      exact ⟨rfl, mo⟩
    · rw [if_neg (fun z => hj z.symm), List.getElem?_set_ne hj]
      exact e.sm j b o' q
  · rcases own j b o' q with ⟨rfl, rfl, rfl⟩ | ⟨hj, q⟩
    · rw [if_neg (by decide), if_pos rfl]
      exact h0
    · have := e.pp j b o' q
      show if b = true then ps[j]? = some (if j = i then p else ad j) else H0 (if j = i then p else ad j) = none
      rw [show (if j = i then p else ad j) = ad j from if_neg fun z => hj z.symm]
      exact this
  · by_cases hj : i = j
    · subst hj
      rw [List.getElem?_set_self hi] at q
      cases q
    · rw [List.getElem?_set_ne hj] at q
      show (σ.set i (some (.ref p)))[j]? = some (some (.ref (if j = i then p else ad j))) ∧ DD W H (.ref (if j = i then p else ad j)) y ∧ ps[j]? = some (if j = i then p else ad j)
      rw [show (if j = i then p else ad j) = ad j from if_neg fun z => hj z.symm, List.getElem?_set_ne hj]
      exact e.ss j y q
  · obtain ⟨b, o1, q1⟩ := hj
    obtain ⟨b2, o2, q2⟩ := hk
    rcases own j b o1 q1 with ⟨rfl, _, _⟩ | ⟨n1, p1⟩
    · rcases own k b2 o2 q2 with ⟨rfl, _, _⟩ | ⟨n2, q2⟩
      · rfl
      · rw [if_pos rfl, if_neg (fun z => n2 z.symm)] at ee
        exact absurd ee.symm (hn k ⟨b2, o2, q2⟩)
    · rcases own k b2 o2 q2 with ⟨rfl, _, _⟩ | ⟨n2, q2⟩
      · rw [if_pos rfl, if_neg (fun z => n1 z.symm)] at ee
        exact absurd ee (hn j ⟨b, o1, p1⟩)
      · rw [if_neg (fun z => n1 z.symm), if_neg (fun z => n2 z.symm)] at ee
        exact e.inj j k ⟨b, o1, p1⟩ ⟨b2, o2, q2⟩ ee
theorem s_own {i : Nat} {te : TE} {m : M MO} (h : EvN W E te m) : EvS W E (tAsg te (gName i)) (mOwn i m) := fun ps pn ad g σ H0 H r D hm e x k => by
  rcases bnd_some hm with ⟨o, g1, h1, h2⟩ | ⟨c, w, g1, h1, h2⟩
  · refine h ps pn ad g σ H0 H _ _ h1 e (fun c w g'' z => by cases z) fun o' g'' z p H1 e1 k1 hp h0 hn mo => ?_
    cases z
    obtain ⟨h3, h4⟩ := bnd_setM h2
    cases h4
    exact k .nx _ rfl _ _ H1 (e1.setM h3 h0 hn mo)
  · subst h2
    exact h ps pn ad g σ H0 H _ _ h1 e (fun c' w' g'' z C dx H' hm' e' k' v => by cases z; exact x _ _ _ rfl C dx ad σ H' hm' e' v) fun o' g'' z => by cases z
/-- a changing thing is written -/
theorem EnvD.upM {i : Nat} {b : Bool} {o o' : MO} {u : HO} (e : EnvD W ps pn ad g σ H0 H) (h : g[i]? = some (Sl.m b o)) (mo : MOk W (upd H (ad i) u) (ad i) o') :
    EnvD W ps pn ad (g.set i (.m b o')) σ H0 (upd H (ad i) u) ∧ Kp ad g H (g.set i (.m b o')) (upd H (ad i) u) := by
  have ow : ∀ j ∈ [i], Own g j := fun j hj => by rw [List.mem_singleton.mp hj]; exact ⟨b, o, h⟩
  have := e.call (js := [i]) (os' := [o']) (H' := upd H (ad i) u) (List.nodup_cons.mpr ⟨List.not_mem_nil, List.nodup_nil⟩) ow rfl (fun a w n q => by
    rw [upd_ne (fun z => n (by rw [z]; exact List.mem_cons_self))]
    exact q) ⟨rfl, fun k a w h1 h2 => by
      cases k with
      | zero => cases h1; cases h2; exact mo
      | succ k => simp at h1⟩
  have e2 : putMs [i] [o'] g = g.set i (.m b o') := by
    show putMs [] [] (putM i o' g) = _
    unfold putMs putM
    rw [h]
  rw [e2] at this
  exact this
theorem upd_moD {a : Addr} {u w : HO} (h : H a = some u) (n : ¬ ImmD W u) : MoD W H (upd H a w) := fun b o i q => by
  rw [upd_ne (fun z => by subst z; rw [h] at q; cases q; exact n i)]
  exact q
def lstAt (g : Frm) (i : Nat) : Option (Bool × List Dat) := match g[i]? with
  | some (.m b (.lst xs)) => some (b, xs)
  | _ => none
theorem lstAt_some {i : Nat} {b : Bool} {xs : List Dat} (h : lstAt g i = some (b, xs)) : g[i]? = some (Sl.m b (.lst xs)) := by
  unfold lstAt at h
  split at h
  · rename_i q; cases h; exact q
  · cases h
def dicAt (g : Frm) (i : Nat) : Option (Bool × List (Key × Dat)) := match g[i]? with
  | some (.m b (.dic xs)) => some (b, xs)
  | _ => none
theorem dicAt_some {i : Nat} {b : Bool} {xs : List (Key × Dat)} (h : dicAt g i = some (b, xs)) : g[i]? = some (Sl.m b (.dic xs)) := by
  unfold dicAt at h
  split at h
  · rename_i q; cases h; exact q
  · cases h
/-- x.append(e) -/
def mAppend (i : Nat) (m : M Dat) : M Dat := fun g => if (lstAt g i).isSome = true then bnd m (fun d g1 => match lstAt g1 i with
    | some (b, xs) => if xs.length < sizeLine then some (.ok .non (g1.set i (.m b (.lst (xs ++ [d]))))) else none
    | none => none) g
  else none
theorem lst_env {i : Nat} {b : Bool} {xs : List Dat} (e : EnvD W ps pn ad g σ H0 H) (h : lstAt g i = some (b, xs)) : σ[i]? = some (some (.ref (ad i))) ∧ ∃ vs, H (ad i) = some (.lst vs) ∧ DDs W H vs xs := e.sm i b _ (lstAt_some h)
theorem dic_env {i : Nat} {b : Bool} {xs : List (Key × Dat)} (e : EnvD W ps pn ad g σ H0 H) (h : dicAt g i = some (b, xs)) : σ[i]? = some (some (.ref (ad i))) ∧ ∃ vs, H (ad i) = some (.dK vs) ∧ DDk W H vs xs := e.sm i b _ (dicAt_some h)
theorem ev_append {i : Nat} {te : TE} {m : M Dat} (h : EvE W E te m) : EvE W E (tBM W.K "list" rAppend (tVar i) (tCons te tNil)) (mAppend i m) := fun ps pn ad g σ H0 H r Q hm e x k => by
  unfold mAppend at hm
  split at hm
  · rename_i hs
    obtain ⟨⟨b0, xs0⟩, h0⟩ := Option.isSome_iff_exists.mp hs
    obtain ⟨hσ, vs0, hv0, _⟩ := lst_env e h0
    refine ⟨_, hσ, .inl ⟨rfl, vs0, SqL.of hv0⟩, h.go hm e x fun d g1 v H1 f1 e1 k1 r1 x1 => ?_⟩
    split at f1
    · rename_i b xs hl
      split at f1
      · rename_i hz
        cases f1
        obtain ⟨_, vs, hv, dv⟩ := lst_env e1 hl
        refine ⟨ad i, vs, v, rfl, rfl, hv, by rw [dv.len]; exact hz, ?_⟩
        obtain ⟨e2, k2⟩ := e1.upM (u := .lst (vs ++ [v])) (o' := .lst (xs ++ [d])) (lstAt_some hl) ⟨_, upd_same, (dv.mo (upd_moD hv (fun z => z))).app (.cons (r1.mo (upd_moD hv (fun z => z))) .nil)⟩
        exact k _ _ rfl .non _ e2 (k1.trans k2) .non
      · cases f1
    · cases f1
  · cases hm
/-- x.pop(k) -/
def mPopAt (i : Nat) (m : M Dat) : M Dat := fun g => if (lstAt g i).isSome = true then bnd m (fun d g1 => match lstAt g1 i, d with
    | some (b, xs), .int j => if -(2 ^ 63) ≤ j ∧ j < 2 ^ 63 then match seqIndex? j xs.length with
      | some q => match xs[q]? with
        | some y => some (.ok y (g1.set i (.m b (.lst (xs.eraseIdx q)))))
        | none => none
      | none => none
      else none
    | _, _ => none) g
  else none
theorem DDs.erase : ∀ {vs : List V} {ds : List Dat} (i : Nat), DDs W H vs ds → DDs W H (vs.eraseIdx i) (ds.eraseIdx i)
  | _, _, _, .nil => .nil
  | _, _, 0, .cons a b => b
  | _, _, i + 1, .cons a b => .cons a (DDs.erase i b)
theorem DDs.set' : ∀ {vs : List V} {ds : List Dat} (i : Nat) {v : V} {d : Dat}, DD W H v d → DDs W H vs ds → DDs W H (vs.set i v) (ds.set i d)
  | _, _, _, _, _, _, .nil => .nil
  | _, _, 0, _, _, h, .cons a b => .cons h b
  | _, _, i + 1, _, _, h, .cons a b => .cons a (DDs.set' i h b)
theorem ev_popAt {i : Nat} {te : TE} {m : M Dat} (h : EvE W E te m) : EvE W E (tBM W.K "list" rPopAt (tVar i) (tCons te tNil)) (mPopAt i m) := fun ps pn ad g σ H0 H r Q hm e x k => by
  unfold mPopAt at hm
  split at hm
  · rename_i hs
    obtain ⟨⟨b0, xs0⟩, h0⟩ := Option.isSome_iff_exists.mp hs
    obtain ⟨hσ, vs0, hv0, _⟩ := lst_env e h0
    refine ⟨_, hσ, .inl ⟨rfl, vs0, SqL.of hv0⟩, h.go hm e x fun d g1 v H1 f1 e1 k1 r1 x1 => ?_⟩
    cases hl : lstAt g1 i with
    | none => simp only [hl] at f1; cases f1
    | some bx =>
      obtain ⟨b, xs⟩ := bx
      cases d <;> try (simp only [hl] at f1; cases f1)
      rename_i j
      simp only [hl] at f1
      split at f1
      · rename_i hj
        split at f1
        · rename_i q hq
          split at f1
          · rename_i y hy
            cases f1
            cases dd_int r1
            obtain ⟨_, vs, hv, dv⟩ := lst_env e1 hl
            obtain ⟨vy, hvy, dy⟩ := dv.getD hy
            refine ⟨ad i, vs, j, q, vy, rfl, rfl, hv, hj.1, hj.2, by rw [dv.len]; exact hq, hvy, ?_⟩
            obtain ⟨e2, k2⟩ := e1.upM (u := .lst (vs.eraseIdx q)) (o' := .lst (xs.eraseIdx q)) (lstAt_some hl) ⟨_, upd_same, (dv.mo (upd_moD hv (fun z => z))).erase q⟩
            exact k _ _ rfl vy _ e2 (k1.trans k2) (dy.mo (upd_moD hv (fun z => z)))
          · cases f1
        · cases f1
      · cases f1
  · cases hm
/-- x[k] = e -/
def mSetIx (i : Nat) (mk mv : M Dat) : M Fl := bnd mv fun v g => if (lstAt g i).isSome = true then bnd mk (fun k g1 => match lstAt g1 i, k with
    | some (b, xs), .int k => match ixN xs.length k with
      | some j => some (.ok .nx (g1.set i (.m b (.lst (xs.set j v)))))
      | none => none
    | _, _ => none) g
  else none
theorem s_setIx {i : Nat} {tk tv : TE} {mk mv : M Dat} (hk : EvE W E tk mk) (hv : EvE W E tv mv) : EvS W E (tAsg tv (gSub (tVar i) tk rSetL)) (mSetIx i mk mv) := fun ps pn ad g σ H0 H r D hm e x k =>
  hv.goS hm e x fun dv g1 vv H1 f1 e1 k1 r1 => by
    split at f1
    · rename_i hs
      obtain ⟨⟨b0, xs0⟩, h0⟩ := Option.isSome_iff_exists.mp hs
      obtain ⟨hσ, vs0, hv0, _⟩ := lst_env e1 h0
      refine ⟨_, hσ, hk.goS f1 e1 x fun dk g2 vk H2 f2 e2 k2 r2 => ?_⟩
      cases hl : lstAt g2 i with
      | none => simp only [hl] at f2; cases f2
      | some bx =>
        obtain ⟨b, xs⟩ := bx
        cases dk <;> try (simp only [hl] at f2; cases f2)
        rename_i j
        simp only [hl] at f2
        split at f2
        · rename_i q hq
          cases f2
          cases dd_int r2
          obtain ⟨_, vs, hv, dvs⟩ := lst_env e2 hl
          refine ⟨ad i, vs, j, q, rfl, rfl, hv, by rw [dvs.len]; exact hq, ?_⟩
          obtain ⟨e3, k3⟩ := e2.upM (u := .lst (vs.set q vv)) (o' := .lst (xs.set q dv)) (lstAt_some hl) ⟨_, upd_same, (dvs.mo (upd_moD hv (fun z => z))).set' q ((r1.mo (e1.mo k2)).mo (upd_moD hv (fun z => z)))⟩
          exact k .nx _ rfl ad σ _ e3
        · cases f2
    · cases f1
/-- reading: len(x), x[k], as it is from now on -/
def mLenM (i : Nat) : M Dat := fun g => match lstAt g i with
  | some (_, xs) => some (.ok (.int (xs.length : Nat)) g)
  | none => match dicAt g i with
    | some (_, xs) => some (.ok (.int (xs.length : Nat)) g)
    | none => none
def rLenZ (K : PySem.W.Frag) : List V → Hp → VK → Prop := fun xs H Q => (∃ x n, xs = [x] ∧ LenV K x H n ∧ Q (V.int ((n : Nat) : Int)) H) ∨ ∃ a kvs, xs = [V.ref a] ∧ H a = some (HO.dK kvs) ∧ Q (V.int ((kvs.length : Nat) : Int)) H
theorem ev_lenM {i : Nat} : EvE W E (tCB (rLenZ W.K) (tCons (tVar i) tNil)) (mLenM i) := fun ps pn ad g σ H0 H r Q hm e x k => by
  unfold mLenM at hm
  split at hm
  · rename_i b xs hl
    cases hm
    obtain ⟨hσ, vs, hv, dv⟩ := lst_env e hl
    refine ⟨_, hσ, .inl ⟨_, vs.length, rfl, .inl ⟨vs, SqL.of hv, rfl⟩, ?_⟩⟩
    rw [dv.len]
    exact k _ _ rfl _ H e Kp.refl (.int _)
  · split at hm
    · rename_i b xs hl
      cases hm
      obtain ⟨hσ, vs, hv, dv⟩ := dic_env e hl
      refine ⟨_, hσ, .inr ⟨_, vs, rfl, hv, ?_⟩⟩
      rw [dv.len]
      exact k _ _ rfl _ H e Kp.refl (.int _)
    · cases hm
def mIxM (i : Nat) (m : M Dat) : M Dat := fun g => if (lstAt g i).isSome = true then bnd m (fun d g1 => match lstAt g1 i, d with
    | some (_, xs), .int j => (atI xs j).map fun y => R.ok y g1
    | _, _ => none) g
  else none
theorem ev_ixM {i : Nat} {te : TE} {m : M Dat} (h : EvE W E te m) : EvE W E (tOp (rIx W.K) (tVar i) te) (mIxM i m) := fun ps pn ad g σ H0 H r Q hm e x k => by
  unfold mIxM at hm
  split at hm
  · rename_i hs
    obtain ⟨⟨b0, xs0⟩, h0⟩ := Option.isSome_iff_exists.mp hs
    obtain ⟨hσ, vs0, hv0, _⟩ := lst_env e h0
    refine ⟨_, hσ, h.go hm e x fun d g1 v H1 f1 e1 k1 r1 x1 => ?_⟩
    cases hl : lstAt g1 i with
    | none => simp only [hl] at f1; cases f1
    | some bx =>
      obtain ⟨b, xs⟩ := bx
      cases d <;> try (simp only [hl] at f1; cases f1)
      rename_i j
      simp only [hl] at f1
      obtain ⟨y, hy, rfl⟩ := Option.map_eq_some_iff.mp f1
      cases dd_int r1
      obtain ⟨_, vs, hv, dv⟩ := lst_env e1 hl
      obtain ⟨vy, hvy, dy⟩ := dds_at dv hy
      exact .inl ⟨ad i, vs, j, vy, rfl, rfl, SqL.of hv, hvy, k _ _ rfl vy H1 e1 k1 dy⟩
  · cases hm
def mFz (i : Nat) : M Dat := fun g => match g[i]? with
  | some (.d x) => some (.ok x g)
  | some (.s x) => some (.ok x g)
  | some (.m false o) => (moD o).map fun d => R.ok d (g.set i (.d d))
  | _ => none
theorem EnvD.frz {i : Nat} {o : MO} {d : Dat} {u : HO} {ob : Obj} (e : EnvD W ps pn ad g σ H0 H) (h : g[i]? = some (Sl.m false o)) (hu : H (ad i) = some u) (ni : ¬ ImmD W u) (hd : DD W (upd H (ad i) (.frz ob u)) (.ref (ad i)) d) :
    EnvD W ps pn ad (g.set i (.d d)) σ H0 (upd H (ad i) (.frz ob u)) ∧ Kp ad g H (g.set i (.d d)) (upd H (ad i) (.frz ob u)) := by
  have hi := (List.getElem?_eq_some_iff.mp h).1
  have own : ∀ (j : Nat) (b : Bool) (o' : MO), (g.set i (Sl.d d))[j]? = some (Sl.m b o') → i ≠ j ∧ g[j]? = some (Sl.m b o') := fun j b o' q => by
    by_cases hj : i = j
    · subst hj
      rw [List.getElem?_set_self hi] at q
      cases q
    · rw [List.getElem?_set_ne hj] at q
      exact ⟨hj, q⟩
  have m : MoD W H (upd H (ad i) (.frz ob u)) := upd_moD hu ni
  have h0 : H0 (ad i) = none := by
    have := e.pp i false o h
    rw [if_neg (by decide)] at this
    exact this
  have ne : ∀ (j : Nat) (b : Bool) (o' : MO), i ≠ j → g[j]? = some (Sl.m b o') → ad j ≠ ad i := fun j b o' hj q z => hj (e.inj j i ⟨b, o', q⟩ ⟨false, o, h⟩ z).symm
  refine ⟨⟨by rw [List.length_set, e.len], fun j y q => ?_, fun j b o' q => ?_, fun j b o' q => e.pp j b o' (own j b o' q).2, fun j y q => ?_, fun j k ⟨b, o1, q1⟩ ⟨b2, o2, q2⟩ => e.inj j k ⟨b, o1, (own j b o1 q1).2⟩ ⟨b2, o2, (own k b2 o2 q2).2⟩, fun a w n q => ?_, fun p hp => p.2 _ _ m (e.pin p hp), fun a ha => ?_⟩, fun a w n q => ?_, fun j ⟨b, o1, q⟩ => ⟨b, o1, (own j b o1 q).2⟩, fun a w q => ?_⟩
  · by_cases hj : i = j
    · subst hj
      rw [List.getElem?_set_self hi] at q
      cases q
      exact ⟨_, (e.sm i false o h).1, hd⟩
    · rw [List.getElem?_set_ne hj] at q
      obtain ⟨v, h1, h2⟩ := e.sd j y q
      exact ⟨v, h1, h2.mo m⟩
  · obtain ⟨hj, q⟩ := own j b o' q
    obtain ⟨h1, h2⟩ := e.sm j b o' q
    exact ⟨h1, h2.keep m fun w hw => by rw [upd_ne (ne j b o' hj q)]; exact hw⟩
  · by_cases hj : i = j
    · subst hj
      rw [List.getElem?_set_self hi] at q
      cases q
    · rw [List.getElem?_set_ne hj] at q
      obtain ⟨h1, h2, h3⟩ := e.ss j y q
      exact ⟨h1, h2.mo m, h3⟩
  · rw [upd_ne (fun z => by rw [z, h0] at q; cases q)]
    exact e.ext a w n q
  · by_cases z : a = ad i
    · exact ⟨_, by rw [z]; exact upd_same⟩
    · rw [upd_ne z]; exact e.pex a ha
  · rw [upd_ne (n i ⟨false, o, h⟩)]
    exact q
  · by_cases z : a = ad i
    · exact ⟨_, by rw [z]; exact upd_same⟩
    · exact ⟨w, by rw [upd_ne z]; exact q⟩
theorem ev_fz {i : Nat} : EvE W E (tFzM (tVar i)) (mFz i) := fun ps pn ad g σ H0 H r Q hm e x k => by
  unfold mFz at hm
  split at hm
  · rename_i d hd
    cases hm
    obtain ⟨v, h1, h2⟩ := e.sd i d hd
    exact ⟨v, h1, .inl (k _ _ rfl v H e Kp.refl h2)⟩
  · rename_i d hd
    cases hm
    obtain ⟨h1, h2, _⟩ := e.ss i d hd
    exact ⟨_, h1, .inl (k _ _ rfl _ H e Kp.refl h2)⟩
  · rename_i o ho
    obtain ⟨d, hd, rfl⟩ := Option.map_eq_some_iff.mp hm
    obtain ⟨hσ, mo⟩ := e.sm i false o ho
    cases o with
    | lst ds =>
      cases hd
      obtain ⟨vs, hv, dv⟩ := mo
      refine ⟨_, hσ, .inr ⟨ad i, .lst vs, rfl, hv, rfl, fun ob => ?_⟩⟩
      have dd : DD W (upd H (ad i) (.frz ob (.lst vs))) (.ref (ad i)) (.lst ds) := .lst upd_same (dv.mo (upd_moD hv (fun z => z)))
      obtain ⟨e2, k2⟩ := e.frz (ob := ob) ho hv (fun z => z) dd
      exact k _ _ rfl _ _ e2 k2 dd
    | dic ds =>
      cases hd
      obtain ⟨vs, hv, dv⟩ := mo
      refine ⟨_, hσ, .inr ⟨ad i, .dK vs, rfl, hv, rfl, fun ob => ?_⟩⟩
      have dd : DD W (upd H (ad i) (.frz ob (.dK vs))) (.ref (ad i)) (.dic ds) := .dic upd_same (dv.mo (upd_moD hv (fun z => z)))
      obtain ⟨e2, k2⟩ := e.frz (ob := ob) ho hv (fun z => z) dd
      exact k _ _ rfl _ _ e2 k2 dd
    | ins c gs => cases hd
  · cases hm
/-! ### dicts -/
def valD (ds : List (Key × Dat)) (k : Key) : Option Dat := (ds.find? fun kv => decide (kv.1 = k)).map (·.2)
theorem ddk_val {k : Key} : ∀ {vs : List (Key × V)} {ds : List (Key × Dat)}, DDk W H vs ds → match valD ds k with
    | some d => ∃ v, valV vs k = some v ∧ DD W H v d
    | none => valV vs k = none
  | _, _, .nil => rfl
  | _, _, .cons (k := k') (v := v) (d := d) (vs := vs) (ds := ds) a b => by
    have ih := ddk_val (k := k) b
    unfold valD valV at ih ⊢
    rw [List.find?_cons, List.find?_cons]
    by_cases e : k' = k
    · rw [decide_eq_true e]
      exact ⟨v, rfl, a⟩
    · rw [decide_eq_false e]
      exact ih
theorem dget_some {a : Addr} {y : V} {k : Key} {vs : List (Key × V)} {r : Option V} (h : Rd H a (.dK vs)) (hy : y = kV k) (e : valV vs k = r) : DGet H a y r := .inl ⟨vs, k, h, hy, e.symm⟩
/-- d.get(k, e), d of the frame -/
def mGetM (i : Nat) (mk md : M Dat) : M Dat := fun g => if (dicAt g i).isSome = true then bnd mk (fun k => bnd md fun d g1 => match dicAt g1 i, keyO k with
    | some (_, kvs), some q => some (.ok ((valD kvs q).getD d) g1)
    | _, _ => none) g
  else none
theorem ev_getM {i : Nat} {tk td : TE} {mk md : M Dat} (hk : EvE W E tk mk) (hd : EvE W E td md) : EvE W E (tDGet2 (tVar i) tk td) (mGetM i mk md) := fun ps pn ad g σ H0 H r Q hm e x k => by
  unfold mGetM at hm
  split at hm
  · rename_i hs
    obtain ⟨⟨b0, xs0⟩, h0⟩ := Option.isSome_iff_exists.mp hs
    obtain ⟨hσ, vs0, hv0, _⟩ := dic_env e h0
    refine ⟨_, hσ, ad i, rfl, .inl ⟨vs0, .inl hv0⟩, hk.go hm e x fun dk g1 vk H1 f1 e1 k1 r1 x1 => hd.go f1 e1 x1 fun dd g2 vd H2 f2 e2 k2 r2 x2 => ?_⟩
    cases hl : dicAt g2 i with
    | none => simp only [hl] at f2; cases f2
    | some bx =>
      obtain ⟨b, kvs⟩ := bx
      cases hq : keyO dk with
      | none => simp only [hl, hq] at f2; cases f2
      | some q =>
        simp only [hl, hq] at f2
        cases f2
        obtain ⟨_, vs, hv, dv⟩ := dic_env e2 hl
        have hy := keyO_some hq (r1.mo (e1.mo k2))
        have := ddk_val (k := q) dv
        cases hw : valD kvs q with
        | none =>
          rw [hw] at this
          exact ⟨none, dget_some (.inl hv) hy this, k _ _ rfl vd H2 e2 (k1.trans k2) (by rw [hw]; exact r2)⟩
        | some d =>
          rw [hw] at this
          obtain ⟨v, h1, h2⟩ := this
          exact ⟨some v, dget_some (.inl hv) hy h1, k _ _ rfl v H2 e2 (k1.trans k2) (by rw [hw]; exact h2)⟩
  · cases hm
/-- d[k] = e, d of the frame -/
def mPutM (i : Nat) (mk mv : M Dat) : M Fl := bnd mv fun v g => if (dicAt g i).isSome = true then bnd mk (fun k g1 => match dicAt g1 i, keyO k with
    | some (b, kvs), some q => if kvs.length < sizeLine then some (.ok .nx (g1.set i (.m b (.dic (putDk kvs q v))))) else none
    | _, _ => none) g
  else none
theorem s_putM {i : Nat} {tk tv : TE} {mk mv : M Dat} (hk : EvE W E tk mk) (hv : EvE W E tv mv) : EvS W E (sDPut (tVar i) tk tv) (mPutM i mk mv) := fun ps pn ad g σ H0 H r D hm e x k =>
  hv.goS hm e x fun dv g1 vv H1 f1 e1 k1 r1 => by
    split at f1
    · rename_i hs
      obtain ⟨⟨b0, xs0⟩, h0⟩ := Option.isSome_iff_exists.mp hs
      obtain ⟨hσ, vs0, hv0, _⟩ := dic_env e1 h0
      refine ⟨_, hσ, hk.goS f1 e1 x fun dk g2 vk H2 f2 e2 k2 r2 => ?_⟩
      cases hl : dicAt g2 i with
      | none => simp only [hl] at f2; cases f2
      | some bx =>
        obtain ⟨b, kvs⟩ := bx
        cases hq : keyO dk with
        | none => simp only [hl, hq] at f2; cases f2
        | some q =>
          simp only [hl, hq] at f2
          split at f2
          · rename_i hz
            cases f2
            obtain ⟨_, vs, hv, dvs⟩ := dic_env e2 hl
            refine ⟨ad i, _, rfl, .inl ⟨vs, q, hv, keyO_some hq r2, by rw [dvs.len]; exact hz, rfl⟩, ?_⟩
            obtain ⟨e3, k3⟩ := e2.upM (u := .dK (putK vs q vv)) (o' := .dic (putDk kvs q dv)) (dicAt_some hl) ⟨_, upd_same, ddk_put (dvs.mo (upd_moD hv (fun z => z))) ((r1.mo (e1.mo k2)).mo (upd_moD hv (fun z => z)))⟩
            exact k .nx _ rfl ad σ _ e3
          · cases f2
    · cases f1
/-- .. of data: d.get(k, e), d[k], k in d -/
def mGetD (mo mk md : M Dat) : M Dat := bnd mo fun o => match o with
  | .dic kvs => bnd mk fun k => bnd md fun d => lift ((keyO k).map fun q => (valD kvs q).getD d)
  | _ => fun _ => none
def mIxD (mo mk : M Dat) : M Dat := bnd mo fun o => match o with
  | .dic kvs => bnd mk fun k => lift ((keyO k).bind fun q => valD kvs q)
  | _ => fun _ => none
def mInD (neg : Bool) (mk mo : M Dat) : M Dat := bnd mk fun k => bnd mo fun o => match o with
  | .dic kvs => lift ((keyO k).map fun q => Dat.bl (if neg = true then !(valD kvs q).isSome else (valD kvs q).isSome))
  | _ => fun _ => none
theorem ev_getD {to tk td : TE} {mo mk md : M Dat} (ho : EvE W E to mo) (hk : EvE W E tk mk) (hd : EvE W E td md) : EvE W E (tDGet2 to tk td) (mGetD mo mk md) := fun ps pn ad g σ H0 H r Q hm e x k =>
  ho.go hm e x fun d0 g0 v0 H0' f0 e0 k0 r0 x0 => by
    split at f0
    · rename_i kvs
      obtain ⟨a, ob, vs, rfl, ha, da⟩ := dd_dic r0
      refine ⟨a, rfl, .inl ⟨vs, .inr ⟨ob, ha⟩⟩, hk.go f0 e0 x0 fun dk g1 vk H1 f1 e1 k1 r1 x1 => hd.go f1 e1 x1 fun dd g2 vd H2 f2 e2 k2 r2 x2 => ?_⟩
      obtain ⟨z, hz, rfl⟩ := lift_some f2
      obtain ⟨q, hq, rfl⟩ := Option.map_eq_some_iff.mp hz
      have mo2 := (e0.mo k1).trans (e1.mo k2)
      have hr := mo2 _ _ (show ImmD W (.frz ob (.dK vs)) from trivial) ha
      have := ddk_val (k := q) (da.mo mo2)
      have hy := keyO_some hq (r1.mo (e1.mo k2))
      cases hw : valD kvs q with
      | none =>
        rw [hw] at this
        exact ⟨none, dget_some (.inr ⟨ob, hr⟩) hy this, k _ _ rfl vd H2 e2 ((k0.trans k1).trans k2) (by rw [hw]; exact r2)⟩
      | some d =>
        rw [hw] at this
        obtain ⟨v, h1, h2⟩ := this
        exact ⟨some v, dget_some (.inr ⟨ob, hr⟩) hy h1, k _ _ rfl v H2 e2 ((k0.trans k1).trans k2) (by rw [hw]; exact h2)⟩
    · cases f0
theorem ev_ixD {to tk : TE} {mo mk : M Dat} (ho : EvE W E to mo) (hk : EvE W E tk mk) : EvE W E (tDGet to tk) (mIxD mo mk) := fun ps pn ad g σ H0 H r Q hm e x k =>
  ho.go hm e x fun d0 g0 v0 H0' f0 e0 k0 r0 x0 => by
    split at f0
    · rename_i kvs
      obtain ⟨a, ob, vs, rfl, ha, da⟩ := dd_dic r0
      refine hk.go f0 e0 x0 fun dk g1 vk H1 f1 e1 k1 r1 x1 => ?_
      obtain ⟨z, hz, rfl⟩ := lift_some f1
      obtain ⟨q, hq, hw⟩ := Option.bind_eq_some_iff.mp hz
      have hr := (e0.mo k1) _ _ (show ImmD W (.frz ob (.dK vs)) from trivial) ha
      have := ddk_val (k := q) (da.mo (e0.mo k1))
      rw [hw] at this
      obtain ⟨v, h1, h2⟩ := this
      exact ⟨a, v, rfl, dget_some (.inr ⟨ob, hr⟩) (keyO_some hq r1) h1, k _ _ rfl v H1 e1 (k0.trans k1) h2⟩
    · cases f0
theorem ev_inD (neg : Bool) {to tk : TE} {mo mk : M Dat} (hk : EvE W E tk mk) (ho : EvE W E to mo) : EvE W E (if neg = true then tDNotIn tk to else tDIn tk to) (mInD neg mk mo) := fun ps pn ad g σ H0 H r Q hm e x k => by
  have core : ∀ (dk : Dat) (g1 : Frm) (vk : V) (H1 : Hp) (d0 : Dat) (g0 : Frm) (v0 : V) (H2 : Hp), (match d0 with | .dic kvs => lift ((keyO dk).map fun q => Dat.bl (if neg = true then !(valD kvs q).isSome else (valD kvs q).isSome)) | _ => fun _ => none : M Dat) g0 = some r → EnvD W ps pn ad g0 σ H0 H2 → Kp ad g H g0 H2 → DD W H2 vk dk → DD W H2 v0 d0 →
      ∃ a o, v0 = .ref a ∧ DGet H2 a vk o ∧ Q (.bl (if neg = true then !o.isSome else o.isSome)) H2 := by
    intro dk g1 vk H1 d0 g0 v0 H2 f e0 k0 r1 r0
    split at f
    · rename_i kvs
      obtain ⟨a, ob, vs, rfl, ha, da⟩ := dd_dic r0
      obtain ⟨z, hz, rfl⟩ := lift_some f
      obtain ⟨q, hq, rfl⟩ := Option.map_eq_some_iff.mp hz
      have := ddk_val (k := q) da
      cases hw : valD kvs q with
      | none =>
        rw [hw] at this
        exact ⟨a, none, rfl, dget_some (.inr ⟨ob, ha⟩) (keyO_some hq r1) this, k _ _ rfl _ H2 e0 k0 (by rw [hw]; exact .bl _)⟩
      | some d =>
        rw [hw] at this
        obtain ⟨v, h1, h2⟩ := this
        exact ⟨a, some v, rfl, dget_some (.inr ⟨ob, ha⟩) (keyO_some hq r1) h1, k _ _ rfl _ H2 e0 k0 (by rw [hw]; exact .bl _)⟩
    · cases f
  cases neg with
  | false =>
    refine hk.go hm e x fun dk g1 vk H1 f1 e1 k1 r1 x1 => ho.go f1 e1 x1 fun d0 g0 v0 H2 f0 e0 k0 r0 x0 => ?_
    obtain ⟨a, o, h1, h2, h3⟩ := core dk g1 vk H1 d0 g0 v0 H2 f0 e0 (k1.trans k0) (r1.mo (e1.mo k0)) r0
    exact ⟨a, o, h1, h2, h3⟩
  | true =>
    refine hk.go hm e x fun dk g1 vk H1 f1 e1 k1 r1 x1 => ho.go f1 e1 x1 fun d0 g0 v0 H2 f0 e0 k0 r0 x0 => ?_
    obtain ⟨a, o, h1, h2, h3⟩ := core dk g1 vk H1 d0 g0 v0 H2 f0 e0 (k1.trans k0) (r1.mo (e1.mo k0)) r0
    exact ⟨a, o, h1, h2, h3⟩
/-! ### new things -/
def mLstN (m : M (List Dat)) : M MO := bnd m fun xs => if xs.length ≤ sizeLine then ret (.lst xs) else fun _ => none
def mDic0 : M MO := ret (.dic [])
theorem en_lst {ta : TA} {m : M (List Dat)} (h : EvA W E ta m) : EvN W E (tLst ta) (mLstN m) := fun ps pn ad g σ H0 H r Q hm e x k =>
  h.go hm e x fun ds g1 vs H1 f1 e1 k1 r1 x1 => by
    split at f1
    · rename_i hl
      cases f1
      refine ⟨by rw [r1.len]; exact hl, fun p hp => k _ _ rfl p _ (e1.same (Same.new hp)) (k1.trans (Kp.same (Same.new hp))) (k1.none hp) (e1.fresh hp) (e1.ownNe hp) ⟨vs, upd_same, r1.mo (MoD.same (Same.new hp))⟩⟩
    · cases f1
theorem en_dic0 : EvN W E tDNewK mDic0 := fun ps pn ad g σ H0 H r Q hm e x k p hp => by
  cases hm
  exact k _ _ rfl p _ (e.same (Same.new hp)) (Kp.same (Same.new hp)) hp (e.fresh hp) (e.ownNe hp) ⟨[], upd_same, .nil⟩
def RNOk (W : Wd) (r : List V → Hp → VK → Prop) (f : List Dat → Option MO) : Prop := ∀ (H : Hp) (vs : List V) (ds : List Dat) (o : MO) (Q : VK), f ds = some o → DDs W H vs ds → (∀ p H', H p = none → Same H H' → MOk W H' p o → Q (.ref p) H') → r vs H Q
def mFnN (f : List Dat → Option MO) (m : M (List Dat)) : M MO := bnd m fun xs => lift (f xs)
theorem en_cb {rr : List V → Hp → VK → Prop} {f : List Dat → Option MO} {ta : TA} {m : M (List Dat)} (hr : RNOk W rr f) (h : EvA W E ta m) : EvN W E (tCB rr ta) (mFnN f m) := fun ps pn ad g σ H0 H r Q hm e x k =>
  h.go hm e x fun ds g1 vs H1 f1 e1 k1 r1 x1 => by
    obtain ⟨o, ho, rfl⟩ := lift_some f1
    exact hr H1 vs ds o Q ho r1 fun p H' hp s mo => k _ _ rfl p H' (e1.same s) (k1.trans (Kp.same s)) (k1.none hp) (e1.fresh hp) (e1.ownNe hp) mo
def listN (ds : List Dat) : Option MO := match ds with
  | [.lst xs] | [.tup _ xs] => some (.lst xs)
  | [.dic kvs] => some (.lst (kvs.map fun kv => kDat kv.1))
  | _ => none
theorem rn_list : RNOk W (rListZ W.K) listN := fun H vs ds o Q h hd k => by
  unfold listN at h
  split at h
  · cases h
    obtain ⟨v, rfl, dv⟩ := dds1 hd
    obtain ⟨a, ob, xs, rfl, ha, da⟩ := dd_lst dv
    exact .inl ⟨a, xs, rfl, .inl (.inl (.inr ⟨ob, ha⟩)), fun l hl => k l _ hl (Same.new hl) ⟨xs, upd_same, da.mo (MoD.same (Same.new hl))⟩⟩
  · cases h
    obtain ⟨v, rfl, dv⟩ := dds1 hd
    obtain ⟨a, xs, rfl, ha, da⟩ := dd_tup dv
    exact .inl ⟨a, xs, rfl, .inr ha, fun l hl => k l _ hl (Same.new hl) ⟨xs, upd_same, da.mo (MoD.same (Same.new hl))⟩⟩
  · cases h
    obtain ⟨v, rfl, dv⟩ := dds1 hd
    obtain ⟨a, ob, xs, rfl, ha, da⟩ := dd_dic dv
    exact .inr ⟨a, xs, rfl, .inr ⟨ob, ha⟩, fun l hl => k l _ hl (Same.new hl) ⟨_, upd_same, (ddk_keys da).mo (MoD.same (Same.new hl))⟩⟩
  · cases h
end
end DL

set_option Elab.async false
set_option linter.all false
set_option maxRecDepth 100000
set_option maxHeartbeats 4000000
/-! D9: objects, errors. -/
namespace DL
open PySem PySem.Spec PyProof.Rows L2 GX
def nevM {α : Type} : M α := fun _ => none
def mAttr (c0 f : Str) (m : M Dat) : M Dat := bnd m fun d => match d with
  | .obj c gs => if c = c0 then lift (gs.lookup f) else fun _ => none
  | _ => fun _ => none
def mExVal (en : List Str) (m : M Dat) : M Dat := bnd m fun d => match d with
  | .exc c gs => if c ∈ en then lift (gs.lookup ("value" : Str)) else fun _ => none
  | _ => fun _ => none
def mRaise (c : Str) (m : M Dat) : M Fl := bnd m fun w g => some (.ex c w g)
/-- self.f = e in an __init__; nat: how many attributes a whole object has -/
def mFldSet (i : Nat) (c0 f : Str) (nat : Nat) (m : M Dat) : M Fl := bnd m fun v g => match g[i]? with
  | some (.m true (.ins c fs)) => if c = c0 ∧ fs.lookup f = none ∧ fs.length < 1000 then
      if fs.length + 1 < nat then some (.ok .nx (g.set i (.m true (.ins c (fs ++ [(f, v)])))))
      else if fs.length + 1 = nat then some (.ok .nx (g.set i (.s (.obj c (fs ++ [(f, v)]))))) else none
    else none
  | _ => none
/-- the errors of this program -/
def ErrF (W : Wd) (en : List Str) : Prop := ∀ c C, c ∈ en → W.mg c = some (.ref C) → ∃ fI, ExcF W.K C fI
section
variable {W : Wd} {E : SK} {ps : List Addr} {pn : List (Pn W)} {ad : Nat → Addr} {g g' : Frm} {σ : L2.St} {H0 H H1 H' : Hp}
theorem dd_obj {v : V} {c : Str} {gs : List (Str × Dat)} (h : DD W H v (.obj c gs)) : ∃ a C dx fs, v = .ref a ∧ W.mg c = some (.ref C) ∧ H a = some (.ins C dx fs) ∧ W.at_ C ≤ fs.length ∧ DDf W H fs gs := by
  cases h with | obj h1 h2 h3 h4 => exact ⟨_, _, _, _, rfl, h1, h2, h3, h4⟩
theorem dd_exc {v : V} {c : Str} {gs : List (Str × Dat)} (h : DD W H v (.exc c gs)) : ∃ a C fs, v = .ref a ∧ W.mg c = some (.ref C) ∧ ExAt H a C fs ∧ DDf W H fs gs := by
  cases h with | exc h1 h2 h3 => exact ⟨_, _, _, rfl, h1, h2, h3⟩
theorem mg_inj {c : Str} {C C' : Addr} (h : W.mg c = some (.ref C)) (h' : W.mg c = some (.ref C')) : C = C' := by
  rw [h] at h'
  cases h'
  rfl
theorem ev_attr {c0 f : Str} {te : TE} {m : M Dat} (hf : ∀ C, W.mg c0 = some (.ref C) → Cls W.K C ∧ NoAttr W.K C f) (h : EvE W E te m) : EvE W E (tFld W.K te f) (mAttr c0 f m) := fun ps pn ad g σ H0 H r Q hm e x k =>
  h.go hm e x fun d g1 v H1 f1 e1 k1 r1 x1 => by
    split at f1
    · rename_i c gs
      split at f1
      · rename_i hc
        subst hc
        obtain ⟨z, hz, rfl⟩ := lift_some f1
        obtain ⟨a, C, dx, fs, rfl, hC, ha, _, da⟩ := dd_obj r1
        obtain ⟨v, hv, dv⟩ := da.look hz
        exact ⟨a, C, dx, fs, v, rfl, ha, (hf C hC).1, (hf C hC).2, hv, k _ _ rfl v H1 e1 k1 dv⟩
      · cases f1
    · cases f1
theorem ev_exval {en : List Str} {te : TE} {m : M Dat} (hf : ErrF W en) (h : EvE W E te m) : EvE W E (tExA W.K te "value") (mExVal en m) := fun ps pn ad g σ H0 H r Q hm e x k =>
  h.go hm e x fun d g1 v H1 f1 e1 k1 r1 x1 => by
    split at f1
    · rename_i c gs
      split at f1
      · rename_i hc
        obtain ⟨z, hz, rfl⟩ := lift_some f1
        obtain ⟨a, C, fs, rfl, hC, ha, da⟩ := dd_exc r1
        obtain ⟨v, hv, dv⟩ := da.look hz
        obtain ⟨fI, T⟩ := hf c C hc hC
        exact ⟨a, C, fI, fs, v, rfl, ha, T, T.noV, hv, k _ _ rfl v H1 e1 k1 dv⟩
      · cases f1
    · cases f1
theorem s_raise {c : Str} {C fI : Addr} {E1 : XK} {te : TE} {m : M Dat} (hc : W.mg c = some (.ref C)) (T : ExcF W.K C fI) (h : EvE W (fun _ => E1) te m) : EvS W (fun _ => E1) (tRs W.K C (fun cls d _ H => E1 cls d H) (tCons te tNil)) (mRaise c m) := fun ps pn ad g σ H0 H r D hm e x k =>
  h.goS hm e x fun w g1 v H1 f1 e1 k1 r1 => by
    cases f1
    refine ⟨by show 1 ≤ 1000; decide, fun a fa => ⟨a, C, v, rfl, T.ox, T.noV, upd_same, fun dx fd nd => ⟨rfl, dx, [("value", v)], upd_same, by rw [upd_ne nd, upd_same], ?_, ?_⟩⟩⟩
    · rw [upd_ne nd] at fd
      exact fd
    · rw [upd_ne nd] at fd
      have s : Same H1 (upd (del (upd (upd (upd H1 a (exo a C none)) dx (exd dx [("value", v)])) a (exo a C (some dx))) a) dx (.xd [("value", v)])) := fun b u q => by
        have n1 := ne_of_none q fa
        have n2 := ne_of_none q fd
        rw [upd_ne n2]
        show (if b = a then none else _) = _
        rw [if_neg n1, upd_ne n1, upd_ne n2, upd_ne n1]
        exact q
      exact x _ _ _ rfl C dx ad σ _ hc (e1.same s) ⟨v, upd_same, r1.mo (MoD.same s)⟩
theorem putF_new {f : Str} {v : V} : ∀ {fs : List (Str × V)}, fs.lookup f = none → putF f v fs = fs ++ [(f, v)]
  | [], _ => rfl
  | (g, x) :: r, h => by
    rw [List.lookup_cons] at h
    cases q : f == g with
    | true => rw [q] at h; cases h
    | false =>
      rw [q] at h
      have n : g ≠ f := fun z => by rw [z] at q; simp at q
      show (if g = f then _ else _) = _
      rw [if_neg n, putF_new h]
      rfl
theorem s_fldset {i : Nat} {c0 f : Str} {nat : Nat} {tv : TE} {m : M Dat} (hf : ∀ C, W.mg c0 = some (.ref C) → Cls W.K C ∧ NoAttr W.K C f ∧ W.at_ C = nat) (h : EvE W E tv m) : EvS W E (sFld W.K (tVar i) tv f) (mFldSet i c0 f nat m) := fun ps pn ad g σ H0 H r D hm e x k =>
  h.goS hm e x fun w g1 v H1 f1 e1 k1 r1 => by
    split at f1
    · rename_i c gs hg
      split at f1
      · rename_i hc
        obtain ⟨rfl, hl, hz⟩ := hc
        obtain ⟨hσ, C, dx, fs, hC, ha, hlt, da⟩ := e1.sm i true _ hg
        obtain ⟨h1, h2, h3⟩ := hf C hC
        have hl2 := da.look_none hl
        have hlen := da.len
        have ni : ¬ ImmD W (.ins C dx fs) := fun z => absurd (show W.at_ C ≤ fs.length from z) (by omega)
        refine ⟨_, hσ, ad i, C, dx, fs, rfl, ha, h1, h2, by omega, ?_⟩
        rw [putF_new hl2]
        have m1 : MoD W H1 (upd H1 (ad i) (.ins C dx (fs ++ [(f, v)]))) := upd_moD ha ni
        have da2 : DDf W (upd H1 (ad i) (.ins C dx (fs ++ [(f, v)]))) (fs ++ [(f, v)]) (gs ++ [(f, w)]) := (da.mo m1).app (.cons (r1.mo m1) .nil)
        split at f1
        · rename_i hn
          cases f1
          obtain ⟨e2, _⟩ := e1.upM (u := .ins C dx (fs ++ [(f, v)])) (o' := .ins c (gs ++ [(f, w)])) hg ⟨C, dx, _, hC, upd_same, by rw [List.length_append, h3]; show fs.length + 1 < nat; omega, da2⟩
          exact k .nx _ rfl ad σ _ e2
        · split at f1
          · rename_i hn
            cases f1
            refine k .nx _ rfl ad σ _ ?_
            -- the object is whole now
            have dd : DD W (upd H1 (ad i) (.ins C dx (fs ++ [(f, v)]))) (.ref (ad i)) (.obj c (gs ++ [(f, w)])) := .obj hC upd_same (by rw [List.length_append, h3]; show nat ≤ fs.length + 1; omega) da2
            have hi := (List.getElem?_eq_some_iff.mp hg).1
            have own : ∀ (j : Nat) (b : Bool) (o' : MO), (g1.set i (Sl.s (.obj c (gs ++ [(f, w)]))))[j]? = some (Sl.m b o') → i ≠ j ∧ g1[j]? = some (Sl.m b o') := fun j b o' q => by
              by_cases hj : i = j
              · subst hj
                rw [List.getElem?_set_self hi] at q
                cases q
              · rw [List.getElem?_set_ne hj] at q
                exact ⟨hj, q⟩
            have h0 : ps[i]? = some (ad i) := by
              have := e1.pp i true _ hg
              rw [if_pos rfl] at this
              exact this
            have ne : ∀ (j : Nat) (b : Bool) (o' : MO), i ≠ j → g1[j]? = some (Sl.m b o') → ad j ≠ ad i := fun j b o' hj q z => hj (e1.inj j i ⟨b, o', q⟩ ⟨true, _, hg⟩ z).symm
            refine ⟨by rw [List.length_set, e1.len], fun j y q => ?_, fun j b o' q => ?_, fun j b o' q => e1.pp j b o' (own j b o' q).2, fun j y q => ?_, fun j k ⟨b, o1, q1⟩ ⟨b2, o2, q2⟩ => e1.inj j k ⟨b, o1, (own j b o1 q1).2⟩ ⟨b2, o2, (own k b2 o2 q2).2⟩, fun a u n q => ?_, fun p hp => p.2 _ _ m1 (e1.pin p hp), fun a ha => ?_⟩
            · by_cases hj : i = j
              · subst hj
                rw [List.getElem?_set_self hi] at q
                cases q
              · rw [List.getElem?_set_ne hj] at q
                obtain ⟨v', q1, q2⟩ := e1.sd j y q
                exact ⟨v', q1, q2.mo m1⟩
            · obtain ⟨hj, q⟩ := own j b o' q
              obtain ⟨q1, q2⟩ := e1.sm j b o' q
              exact ⟨q1, q2.keep m1 fun u hu => by rw [upd_ne (ne j b o' hj q)]; exact hu⟩
            · by_cases hj : i = j
              · subst hj
                rw [List.getElem?_set_self hi] at q
                cases q
                exact ⟨hσ, dd, h0⟩
              · rw [List.getElem?_set_ne hj] at q
                obtain ⟨q1, q2, q3⟩ := e1.ss j y q
                exact ⟨q1, q2.mo m1, q3⟩
            · rw [upd_ne (fun z => n (by rw [z]; exact List.mem_of_getElem? h0))]
              exact e1.ext a u n q
            · by_cases z : a = ad i
              · exact ⟨_, by rw [z]; exact upd_same⟩
              · rw [upd_ne z]; exact e1.pex a ha
          · cases f1
      · cases f1
    · cases f1
/-! ### properties and methods -/
/-- F at an object of the class -/
def mProp (c0 : Str) (F : FM) (m : M Dat) : M Dat := bnd m fun d => match d with
  | .obj c gs => if c = c0 then (fun g => match F [] [.obj c gs] with
    | some (.ok z []) => some (.ok z g)
    | _ => none) else fun _ => none
  | _ => fun _ => none
theorem bts_nil (b : Bts [] H H') : Same H H' := fun a o h => b a o List.not_mem_nil h
theorem ev_prop {c0 : Str} {C : Addr} {F : FM} {E1 : XK} {te : TE} {m : M Dat} (hC : W.mg c0 = some (.ref C)) (h : EvE W E te m) : EvE W E (tProp C (spF W 0 1 F) [] E1 te) (mProp c0 F m) := fun ps pn ad g σ H0 H r Q hm e x k =>
  h.go hm e x fun d g1 v H1 f1 e1 k1 r1 x1 => by
    split at f1
    · rename_i c gs
      split at f1
      · rename_i hc
        subst hc
        split at f1
        · rename_i z hz
          cases f1
          obtain ⟨a, C', dx, fs, rfl, hC', ha, hn, da⟩ := dd_obj r1
          cases mg_inj hC hC'
          refine ⟨a, dx, fs, rfl, ha, [], [], [.ref a], [.obj c gs], _, rfl, rfl, rfl, List.nodup_nil, ⟨rfl, fun i a o h => by simp at h⟩, .cons (.obj hC ha hn da) .nil, hz, fun d os' ee v H' b _ dv => ?_, fun c w os' ee => by cases ee⟩
          cases ee
          exact k _ _ rfl v H' (e1.same (bts_nil b)) (k1.trans (Kp.same (bts_nil b))) dv
        · cases f1
      · cases f1
    · cases f1
/-- o.m(..): F at the object and the arguments -/
def mMethO (c0 mn : Str) (F : FM) (dd : List Dat) (m : M Dat) (ma : M (List Dat)) : M Dat := bnd m fun d => match d with
  | .obj c gs => if c = c0 ∧ gs.lookup mn = none then bnd ma (fun ds g => match F [] (.obj c gs :: (ds ++ dd)) with
    | some (.ok z []) => some (.ok z g)
    | some (.ex c w []) => some (.ex c w g)
    | _ => none) else fun _ => none
  | _ => fun _ => none
theorem mos_nil : MOs W H [] [] := ⟨rfl, fun i a o h => by simp at h⟩
theorem call_obj {F : FM} {E1 : XK} {ar : Nat} {us : List V} {ds : List Dat} {rf : RF} {Q : VK} (hd : DDs W H us ds) (hl : ds.length = ar) (hF : F [] ds = some rf) (hq : ∀ d, rf = .ok d [] → ∀ v H', Same H H' → DD W H' v d → Q v H')
    (hx : ∀ c w, rf = .ex c w [] → ∀ C dx H', W.mg c = some (.ref C) → Same H H' → XV W H' dx w → E1 (.ref C) (some dx) H') (hn : ∀ d os, rf = .ok d os → os = []) (hn2 : ∀ c w os, rf = .ex c w os → os = []) : spF W 0 ar F us H Q E1 :=
  ⟨[], [], us, ds, rf, rfl, rfl, by rw [Nat.zero_add]; exact hl, List.nodup_nil, mos_nil, hd, hF, fun d os' e v H' b _ dv => hq d (by rw [e, hn d os' e]) v H' (bts_nil b) dv, fun c w os' e C dx H' hc b _ xv => hx c w (by rw [e, hn2 c w os' e]) C dx H' hc (bts_nil b) xv⟩
theorem ev_methX {c0 mn : Str} {C : Addr} {F : FM} {E1 : XK} {ar n : Nat} {te : TE} {ta : TA} {m : M Dat} {ma : M (List Dat)} {dvs : List V} {dd : List Dat} (hC : W.mg c0 = some (.ref C)) (hl : LenIs n ma) (har : 1 + (n + dd.length) = ar) (hd : ∀ H, DDs W H dvs dd)
    (h : EvE W (fun _ => E1) te m) (ha : EvA W (fun _ => E1) ta ma) : EvE W (fun _ => E1) (tMeth C mn (spF W 0 ar F) dvs E1 te ta) (mMethO c0 mn F dd m ma) := fun ps pn ad g σ H0 H r Q hm e x k =>
  h.go hm e x fun d g1 v H1 f1 e1 k1 r1 x1 => by
    split at f1
    · rename_i c gs
      split at f1
      · rename_i hc
        obtain ⟨rfl, hno⟩ := hc
        obtain ⟨a, C', dx, fs, rfl, hC', hat, hn, da⟩ := dd_obj r1
        cases mg_inj hC hC'
        refine ⟨a, dx, fs, rfl, hat, da.look_none hno, ?_⟩
        rcases bnd_some f1 with ⟨ds, g2, q1, q2⟩ | ⟨c', w', g2, q1, q2⟩
        · refine ha ps pn ad g1 σ H0 H1 _ _ q1 e1 (fun c w g'' z => by cases z) fun ds' g'' z us H2 e2 k2 d2 => ?_
          cases z
          have dd2 : DDs W H2 (.ref a :: (us ++ dvs)) (.obj c gs :: (ds ++ dd)) := .cons (r1.mo (e1.mo k2)) (d2.app (hd H2))
          have hlen : (Dat.obj c gs :: (ds ++ dd)).length = ar := by
            rw [List.length_cons, List.length_append, hl ds _ _ q1]
            omega
          split at q2
          · rename_i z hz
            cases q2
            exact call_obj dd2 hlen hz (fun d e v H' s dv => by cases e; exact k _ _ rfl v H' (e2.same s) ((k1.trans k2).trans (Kp.same s)) dv) (fun c w e => by cases e) (fun d os e => by cases e; rfl) (fun c w os e => by cases e)
          · rename_i c' w' hz
            cases q2
            exact call_obj dd2 hlen hz (fun d e => by cases e) (fun c w e C dx H' hc s xv => by cases e; exact x _ _ _ rfl C dx H' hc (e2.same s) ((k1.trans k2).trans (Kp.same s)) xv) (fun d os e => by cases e) (fun c w os e => by cases e; rfl)
          · cases q2
        · subst q2
          exact ha ps pn ad g1 σ H0 H1 _ _ q1 e1 (fun c w g'' z => by cases z; exact x1 _ _ _ rfl) fun ds' g'' z => by cases z
      · cases f1
    · cases f1
/-! ### an object is made -/
/-- an __init__'s worth: the arguments to the whole object, or an error -/
abbrev FI := List Dat → Option (Dat × Option (Str × Dat))
def runI (n : Nat) (c : Str) (body : M Fl) : FI := fun ds => if 1 + ds.length ≤ n then match body (Sl.m true (.ins c []) :: (ds.map Sl.d ++ List.replicate (n - (1 + ds.length)) .no)) with
    | some (.ok .nx (.s (.obj c' fs) :: _)) => if c' = c then some (.obj c' fs, none) else none
    | some (.ex e w _) => some (.non, some (e, w))
    | _ => none
  else none
def spI (W : Wd) (c : Str) (ar : Nat) (F : FI) : Sp := fun vs H Q E => ∃ (x C dx : Addr) (us : List V) (ds : List Dat) (r : Dat × Option (Str × Dat)), vs = .ref x :: us ∧ 1 + ds.length = ar ∧ W.mg c = some (.ref C) ∧ 0 < W.at_ C ∧ H x = some (.ins C dx []) ∧ DDs W H us ds ∧ F ds = some r ∧
  (r.2 = none → ∀ H', (∀ b o, b ≠ x → H b = some o → H' b = some o) → DD W H' (.ref x) r.1 → Q .non H') ∧
  (∀ e w, r.2 = some (e, w) → ∀ C dx H', W.mg e = some (.ref C) → (∀ b o, b ≠ x → H b = some o → H' b = some o) → XV W H' dx w → E (.ref C) (some dx) H')
theorem spI_len {c : Str} {ar : Nat} {F : FI} {vs : List V} {Q : VK} {E : XK} (h : spI W c ar F vs H Q E) : vs.length = ar := by
  obtain ⟨x, C, dx, us, ds, r, rfl, har, _, _, _, hd, _⟩ := h
  rw [List.length_cons, hd.len]
  omega
theorem init_run {E1 : XK} {N : List Str} {c : Str} {ar : Nat} {ts : TS} {mb : M Fl} {vs : List V} {Q : VK} (hb : EvS W (fun _ => E1) ts mb) (hn : ar ≤ N.length) (h : spI W c ar (runI N.length c mb) vs H Q E1) : ts { nx := fun _ H' => Q .non H', rt := Q } (L2.start N vs) H := by
  obtain ⟨x, C, dx, us, ds, r, rfl, har, hC, hat, hx, hd, hF, hq, he⟩ := h
  unfold runI at hF
  split at hF
  · rename_i hle
    have e := EnvD.start (W := W) (ps := [x]) (N := N) (us := us) (ds := ds) (os := [.ins c []]) (H := H) hle (List.nodup_cons.mpr ⟨List.not_mem_nil, List.nodup_nil⟩) ⟨rfl, fun i a o h1 h2 => by
      cases i with
      | zero => cases h1; cases h2; exact ⟨C, dx, [], hC, hx, hat, .nil⟩
      | succ i => simp at h1⟩ hd
    have keep : ∀ {g' : Frm} {ad' : Nat → Addr} {σ' : L2.St} {H' : Hp}, EnvD W [x] [] ad' g' σ' H H' → ∀ b o, b ≠ x → H b = some o → H' b = some o := fun e' b o n q => e'.ext b o (fun z => n (List.mem_singleton.mp z)) q
    split at hF
    · rename_i c' fs rest hm
      split at hF
      · rename_i hc
        subst hc
        cases hF
        refine hb [x] [] _ _ _ H H _ _ hm e (fun c w g'' z => by cases z) fun f g'' z ad' σ' H' e' => ?_
        cases z
        obtain ⟨_, dd, h0⟩ := e'.ss 0 _ rfl
        have : ad' 0 = x := (Option.some.inj h0).symm
        rw [this] at dd
        exact hq rfl H' (keep e') dd
      · cases hF
    · rename_i ee w g'' hm
      cases hF
      refine hb [x] [] _ _ _ H H _ _ hm e (fun c w g'' z C dx ad' σ' H' hm' e' v => ?_) fun f g'' z => by cases z
      cases z
      exact he _ _ rfl C dx H' hm' (keep e') v
    · cases hF
  · cases hF
theorem Ev.goM {ps : List Addr} {pn : List (Pn W)} {ad : Nat → Addr} {g : Frm} {σ : L2.St} {H0 H : Hp} {E : SK} {α β γ : Type} {rel : Hp → β → α → Prop} {t : L2.St → Hp → (β → Hp → Prop) → Prop} {m : M α} {f : α → M γ} {r : R γ} {Q : β → Hp → Prop} (h : Ev W E rel t m) (hm : bnd m f g = some r) (e : EnvD W ps pn ad g σ H0 H) (x : XO W E ps pn ad g σ H0 H r)
    (k : ∀ a g' b H', m g = some (.ok a g') → f a g' = some r → EnvD W ps pn ad g' σ H0 H' → Kp ad g H g' H' → rel H' b a → XO W E ps pn ad g' σ H0 H' r → Q b H') : t σ H Q := by
  rcases bnd_some hm with ⟨a, g', h1, h2⟩ | ⟨c, w, g', h1, h2⟩
  · refine h ps pn ad g σ H0 H _ Q h1 e (fun c w g'' z => by cases z) fun a' g'' z b H' e' k' r' => ?_
    cases z
    exact k a g' b H' h1 h2 e' k' r' (x.shift k')
  · refine h ps pn ad g σ H0 H _ Q h1 e (fun c' w' g'' z => ?_) fun a' g'' z => by cases z
    cases z
    exact x c w g' h2
/-- C(..) -/
def mMake (F : FI) (dd : List Dat) (m : M (List Dat)) : M Dat := bnd m fun ds g => match F (ds ++ dd) with
  | some (d, none) => some (.ok d g)
  | some (_, some (c, w)) => some (.ex c w g)
  | none => none
theorem ev_make {c : Str} {C : Addr} {F : FI} {E1 : XK} {ar n : Nat} {ta : TA} {m : M (List Dat)} {dvs : List V} {dd : List Dat} (hC : W.mg c = some (.ref C)) (hat : 0 < W.at_ C) (hl : LenIs n m) (har : 1 + (n + dd.length) = ar) (hd : ∀ H, DDs W H dvs dd)
    (ha : EvA W (fun _ => E1) ta m) : EvE W (fun _ => E1) (tMake C (spI W c ar F) dvs E1 ta) (mMake F dd m) := fun ps pn ad g σ H0 H r Q hm e x k => by
    unfold tMake
    refine Ev.goM (t := ta) ha hm e x ?_
    intro ds g1 us H1 m1 f1 e1 k1 r1 x1 x' dx fx fd nd
    have hlen : ds.length = n := hl ds g g1 m1
    have s1 : Same H1 (upd (upd H1 dx (.own x')) x' (.ins C dx [])) := fun b o q => by
      rw [upd_ne (ne_of_none q fx), upd_ne (ne_of_none q fd)]
      exact q
    have s2 : ∀ H', (∀ b o, b ≠ x' → (upd (upd H1 dx (.own x')) x' (.ins C dx [])) b = some o → H' b = some o) → Same H1 H' := fun H' h b o q => h b o (ne_of_none q fx) (s1 b o q)
    split at f1
    · rename_i d hF
      cases f1
      refine ⟨x', C, dx, us ++ dvs, ds ++ dd, _, rfl, by rw [List.length_append, hlen]; exact har, hC, hat, upd_same, (r1.mo (MoD.same s1)).app (hd _), hF, fun _ H' hk dv => ⟨rfl, ?_⟩, fun c w z => by cases z⟩
      exact k _ _ rfl _ H' (e1.same (s2 H' hk)) (k1.trans (Kp.same (s2 H' hk))) dv
    · rename_i d c' w' hF
      cases f1
      refine ⟨x', C, dx, us ++ dvs, ds ++ dd, _, rfl, by rw [List.length_append, hlen]; exact har, hC, hat, upd_same, (r1.mo (MoD.same s1)).app (hd _), hF, (fun z => by cases z), fun c w z C2 dx2 H' hc hk xv => ?_⟩
      cases z
      exact x1 _ _ _ rfl C2 dx2 H' hc (e1.same (s2 H' hk)) (Kp.same (s2 H' hk)) xv
    · cases f1
end
end DL

set_option Elab.async false
set_option linter.all false
set_option maxRecDepth 100000
set_option maxHeartbeats 4000000
/-! D10: walks of pairs and of dicts; rules of things that change. -/
namespace DL
open PySem PySem.Spec PyProof.Rows L2 GX
/-! ### walks -/
def zipO : List Dat → Option (List Dat)
  | [.lst xs, .lst ys] => some (List.zipWith (fun a b => .tup false [a, b]) xs ys)
  | [.tup _ xs, .tup _ ys] => some (List.zipWith (fun a b => .tup false [a, b]) xs ys)
  | _ => none
def enumL : Nat → List Dat → List Dat
  | _, [] => []
  | k, x :: xs => .tup false [.int (k : Nat), x] :: enumL (k + 1) xs
def enumO : List Dat → Option (List Dat)
  | [.lst xs] => some (enumL 0 xs)
  | _ => none
def keysO : Dat → Option (List Dat)
  | .dic kvs => some (kvs.map fun kv => kDat kv.1)
  | _ => none
def itemsO : Dat → Option (List Dat)
  | .dic kvs => some (kvs.map fun kv => .tup false [kDat kv.1, kv.2])
  | _ => none
theorem zip_get : ∀ {xs ys : List Dat} {i : Nat} {d : Dat}, (List.zipWith (fun a b => Dat.tup false [a, b]) xs ys)[i]? = some d → ∃ x y, xs[i]? = some x ∧ ys[i]? = some y ∧ d = .tup false [x, y]
  | [], _, i, d, h => by simp at h
  | x :: xs, [], i, d, h => by simp at h
  | x :: xs, y :: ys, 0, d, h => by simp at h; exact ⟨x, y, rfl, rfl, h.symm⟩
  | x :: xs, y :: ys, i + 1, d, h => by
    simp only [List.zipWith_cons_cons, List.getElem?_cons_succ] at h ⊢
    exact zip_get h
theorem enumL_len : ∀ (k : Nat) (xs : List Dat), (enumL k xs).length = xs.length
  | _, [] => rfl
  | k, x :: xs => by rw [enumL, List.length_cons, List.length_cons, enumL_len]
theorem enumL_get : ∀ {k : Nat} {xs : List Dat} {i : Nat} {d : Dat}, (enumL k xs)[i]? = some d → ∃ x, xs[i]? = some x ∧ d = .tup false [.int ((k + i : Nat) : Int), x]
  | k, [], i, d, h => by simp [enumL] at h
  | k, x :: xs, 0, d, h => by simp [enumL] at h; exact ⟨x, rfl, h.symm⟩
  | k, x :: xs, i + 1, d, h => by
    simp only [enumL, List.getElem?_cons_succ] at h ⊢
    obtain ⟨y, h1, h2⟩ := enumL_get h
    exact ⟨y, h1, by rw [h2, Nat.add_right_comm, Nat.add_assoc]⟩
def pinK {W : Wd} (vs : List (Key × V)) (ds : List (Key × Dat)) : Pn W := ⟨fun H => DDk W H vs ds, fun _ _ m h => DDk.mo m h⟩
section
variable {W : Wd} {E : SK} {ps : List Addr} {ad : Nat → Addr} {g g1 g2 g' : Frm} {σ : L2.St} {H0 H H1 H2 : Hp}
theorem dd_pair {T : Addr} {x y : V} {a b : Dat} (hT : H T = none) (hx : DD W H x a) (hy : DD W H y b) : Same H (upd H T (.tup [x, y])) ∧ DD W (upd H T (.tup [x, y])) (.ref T) (.tup false [a, b]) :=
  ⟨Same.new hT, .tup (.inl (.inl upd_same)) (fun e => by cases e) (.cons (hx.mo (MoD.same (Same.new hT))) (.cons (hy.mo (MoD.same (Same.new hT))) .nil))⟩
theorem iter_zipL {a b : Addr} {xs ys : List Dat} : IterD W (Itz W.K a b) [pinD (.ref a) (.lst xs), pinD (.ref b) (.lst ys)] (List.zipWith (fun a b => .tup false [a, b]) xs ys) where
  stop := fun i H p h => by
    obtain ⟨a', o, us, ea, ha, da⟩ := dd_lst (p _ List.mem_cons_self)
    obtain ⟨b', o', vs, eb, hb, db⟩ := dd_lst (p _ (List.mem_cons_of_mem _ List.mem_cons_self))
    cases ea
    cases eb
    refine ⟨us, vs, .inl (.inr ⟨o, ha⟩), .inl (.inr ⟨o', hb⟩), ?_⟩
    rw [da.len, db.len]
    rw [List.length_zipWith] at h
    omega
  step := fun i d H p h => by
    obtain ⟨a', o, us, ea, ha, da⟩ := dd_lst (p _ List.mem_cons_self)
    obtain ⟨b', o', vs, eb, hb, db⟩ := dd_lst (p _ (List.mem_cons_of_mem _ List.mem_cons_self))
    cases ea
    cases eb
    obtain ⟨x, y, h1, h2, rfl⟩ := zip_get h
    obtain ⟨u, hu, du⟩ := da.getD h1
    obtain ⟨v, hv, dv⟩ := db.getD h2
    refine ⟨⟨us, vs, u, v, .inl (.inr ⟨o, ha⟩), .inl (.inr ⟨o', hb⟩), hu, hv⟩, fun z H' y => ?_⟩
    obtain ⟨T, x1, y1, rfl, hT, rfl, q1, q2⟩ := y
    have e1 := q1 us (.inl (.inr ⟨o, ha⟩))
    have e2 := q2 vs (.inl (.inr ⟨o', hb⟩))
    rw [hu] at e1
    rw [hv] at e2
    cases e1
    cases e2
    exact dd_pair hT du dv
theorem iter_zipT {a b : Addr} {s t : Bool} {xs ys : List Dat} : IterD W (RZ.ItzT W.K a b) [pinD (.ref a) (.tup s xs), pinD (.ref b) (.tup t ys)] (List.zipWith (fun a b => .tup false [a, b]) xs ys) where
  stop := fun i H p h => by
    obtain ⟨a', us, ea, ha, da⟩ := dd_tup (p _ List.mem_cons_self)
    obtain ⟨b', vs, eb, hb, db⟩ := dd_tup (p _ (List.mem_cons_of_mem _ List.mem_cons_self))
    cases ea
    cases eb
    refine ⟨us, vs, ha, hb, ?_⟩
    rw [da.len, db.len]
    rw [List.length_zipWith] at h
    omega
  step := fun i d H p h => by
    obtain ⟨a', us, ea, ha, da⟩ := dd_tup (p _ List.mem_cons_self)
    obtain ⟨b', vs, eb, hb, db⟩ := dd_tup (p _ (List.mem_cons_of_mem _ List.mem_cons_self))
    cases ea
    cases eb
    obtain ⟨x, y, h1, h2, rfl⟩ := zip_get h
    obtain ⟨u, hu, du⟩ := da.getD h1
    obtain ⟨v, hv, dv⟩ := db.getD h2
    refine ⟨⟨us, vs, u, v, ha, hb, hu, hv⟩, fun z H' y => ?_⟩
    obtain ⟨T, x1, y1, rfl, hT, rfl, q1, q2⟩ := y
    have e1 := q1 us ha
    have e2 := q2 vs hb
    rw [hu] at e1
    rw [hv] at e2
    cases e1
    cases e2
    exact dd_pair hT du dv
theorem iter_enum {a : Addr} {xs : List Dat} : IterD W (Ite W.K a) [pinD (.ref a) (.lst xs)] (enumL 0 xs) where
  stop := fun i H p h => by
    obtain ⟨a', o, us, ea, ha, da⟩ := dd_lst (p _ List.mem_cons_self)
    cases ea
    refine ⟨us, .inl (.inr ⟨o, ha⟩), ?_⟩
    rw [da.len]
    rw [enumL_len] at h
    exact h
  step := fun i d H p h => by
    obtain ⟨a', o, us, ea, ha, da⟩ := dd_lst (p _ List.mem_cons_self)
    cases ea
    obtain ⟨x, h1, rfl⟩ := enumL_get h
    obtain ⟨u, hu, du⟩ := da.getD h1
    refine ⟨⟨us, u, .inl (.inr ⟨o, ha⟩), hu⟩, fun z H' y => ?_⟩
    obtain ⟨T, x1, rfl, hT, rfl, q1⟩ := y
    have e1 := q1 us (.inl (.inr ⟨o, ha⟩))
    rw [hu] at e1
    cases e1
    rw [Nat.zero_add]
    exact dd_pair hT (.int _) du
theorem ddk_get : ∀ {vs : List (Key × V)} {ds : List (Key × Dat)} {i : Nat} {k : Key} {d : Dat}, DDk W H vs ds → ds[i]? = some (k, d) → ∃ v, vs[i]? = some (k, v) ∧ DD W H v d
  | _, _, i, _, _, .nil, e => by simp at e
  | _, _, 0, k, d, .cons a _, e => by
    cases (show some _ = some (k, d) from e)
    exact ⟨_, rfl, a⟩
  | _, _, i + 1, k, d, .cons _ b, e => by
    obtain ⟨v, h1, h2⟩ := ddk_get (i := i) b (by simpa using e)
    exact ⟨v, by simpa using h1, h2⟩
theorem iter_keys {a : Addr} {o : Obj} {vs : List (Key × V)} {ds : List (Key × Dat)} : IterD W (Itk a o vs) [pinO a (.frz o (.dK vs)) trivial, pinK vs ds] (ds.map fun kv => kDat kv.1) where
  stop := fun i H p h => by
    have ha : H a = some (.frz o (.dK vs)) := p _ List.mem_cons_self
    have hd : DDk W H vs ds := p _ (List.mem_cons_of_mem _ List.mem_cons_self)
    refine ⟨ha, ?_⟩
    rw [hd.len]
    rw [List.length_map] at h
    exact h
  step := fun i d H p h => by
    have ha : H a = some (.frz o (.dK vs)) := p _ List.mem_cons_self
    have hd : DDk W H vs ds := p _ (List.mem_cons_of_mem _ List.mem_cons_self)
    rw [List.getElem?_map] at h
    obtain ⟨⟨k, d'⟩, h1, rfl⟩ := Option.map_eq_some_iff.mp h
    obtain ⟨v, hv, dv⟩ := ddk_get hd h1
    refine ⟨⟨ha, (List.getElem?_eq_some_iff.mp hv).1⟩, fun z H' y => ?_⟩
    obtain ⟨rfl, k1, v1, q1, rfl⟩ := y
    rw [hv] at q1
    cases q1
    exact ⟨Same.rf _, dd_kV k⟩
theorem iter_items {a : Addr} {o : Obj} {vs : List (Key × V)} {ds : List (Key × Dat)} : IterD W (Iti a o vs) [pinO a (.frz o (.dK vs)) trivial, pinK vs ds] (ds.map fun kv => .tup false [kDat kv.1, kv.2]) where
  stop := fun i H p h => by
    have ha : H a = some (.frz o (.dK vs)) := p _ List.mem_cons_self
    have hd : DDk W H vs ds := p _ (List.mem_cons_of_mem _ List.mem_cons_self)
    refine ⟨ha, ?_⟩
    rw [hd.len]
    rw [List.length_map] at h
    exact h
  step := fun i d H p h => by
    have ha : H a = some (.frz o (.dK vs)) := p _ List.mem_cons_self
    have hd : DDk W H vs ds := p _ (List.mem_cons_of_mem _ List.mem_cons_self)
    rw [List.getElem?_map] at h
    obtain ⟨⟨k, d'⟩, h1, rfl⟩ := Option.map_eq_some_iff.mp h
    obtain ⟨v, hv, dv⟩ := ddk_get hd h1
    refine ⟨⟨ha, (List.getElem?_eq_some_iff.mp hv).1⟩, fun z H' y => ?_⟩
    obtain ⟨T, k1, v1, q1, rfl, hT, rfl⟩ := y
    rw [hv] at q1
    cases q1
    exact dd_pair hT (dd_kV k) dv
theorem i_zip {ta : TA} {m : M (List Dat)} (h : EvA W E ta m) : EvI W E (RZ.iZipA W.K ta) (mItA zipO m) := fun ps pn ad g σ H0 H r Q hm e x k =>
  h.go hm e x fun d g1 v H1 f1 e1 k1 r1 x1 => by
    obtain ⟨ds, hd, rfl⟩ := lift_some f1
    unfold zipO at hd
    split at hd
    · cases hd
      obtain ⟨u, w, rfl, du, dw⟩ := dds2 r1
      obtain ⟨a, o, us, rfl, ha, da⟩ := dd_lst du
      obtain ⟨b, o', vs, rfl, hb, db⟩ := dd_lst dw
      exact ⟨a, b, us, vs, rfl, .inl ⟨.inl (.inr ⟨o, ha⟩), .inl (.inr ⟨o', hb⟩), k _ _ rfl _ _ H1 (e1.pinned fun p hp => by
        rcases List.mem_cons.mp hp with rfl | hp
        · exact du
        · rw [List.mem_singleton.mp hp]; exact dw) k1 iter_zipL⟩⟩
    · cases hd
      obtain ⟨u, w, rfl, du, dw⟩ := dds2 r1
      obtain ⟨a, us, rfl, ha, da⟩ := dd_tup du
      obtain ⟨b, vs, rfl, hb, db⟩ := dd_tup dw
      exact ⟨a, b, us, vs, rfl, .inr ⟨ha, hb, k _ _ rfl _ _ H1 (e1.pinned fun p hp => by
        rcases List.mem_cons.mp hp with rfl | hp
        · exact du
        · rw [List.mem_singleton.mp hp]; exact dw) k1 iter_zipT⟩⟩
    · cases hd
theorem i_enum {ta : TA} {m : M (List Dat)} (h : EvA W E ta m) : EvI W E (iEnum W.K ta) (mItA enumO m) := fun ps pn ad g σ H0 H r Q hm e x k =>
  h.go hm e x fun d g1 v H1 f1 e1 k1 r1 x1 => by
    obtain ⟨ds, hd, rfl⟩ := lift_some f1
    unfold enumO at hd
    split at hd
    · cases hd
      obtain ⟨u, rfl, du⟩ := dds1 r1
      obtain ⟨a, o, us, rfl, ha, da⟩ := dd_lst du
      exact ⟨a, us, rfl, .inl (.inr ⟨o, ha⟩), k _ _ rfl _ _ H1 (e1.pinned fun p hp => by rw [List.mem_singleton.mp hp]; exact du) k1 iter_enum⟩
    · cases hd
theorem dic_pins {a : Addr} {o : Obj} {vs : List (Key × V)} {ds : List (Key × Dat)} (ha : H a = some (.frz o (.dK vs))) (hd : DDk W H vs ds) : ∀ p ∈ ([pinO a (.frz o (.dK vs)) trivial, pinK vs ds] : List (Pn W)), p.1 H := fun p hp => by
  rcases List.mem_cons.mp hp with rfl | hp
  · exact ha
  · rw [List.mem_singleton.mp hp]; exact hd
theorem i_keys {te : TE} {m : M Dat} (h : EvE W E te m) : EvI W E (iKeys te) (mSeqO keysO m) := fun ps pn ad g σ H0 H r Q hm e x k =>
  h.go hm e x fun d g1 v H1 f1 e1 k1 r1 x1 => by
    obtain ⟨ds, hd, rfl⟩ := lift_some f1
    cases d <;> try cases hd
    obtain ⟨a, o, vs, rfl, ha, da⟩ := dd_dic r1
    exact ⟨a, o, rfl, .inl ⟨vs, ha, k _ _ rfl _ _ H1 (e1.pinned (dic_pins ha da)) k1 iter_keys⟩⟩
theorem i_items {te : TE} {m : M Dat} (h : EvE W E te m) : EvI W E (iItems te) (mSeqO itemsO m) := fun ps pn ad g σ H0 H r Q hm e x k =>
  h.go hm e x fun d g1 v H1 f1 e1 k1 r1 x1 => by
    obtain ⟨ds, hd, rfl⟩ := lift_some f1
    cases d <;> try cases hd
    obtain ⟨a, o, vs, rfl, ha, da⟩ := dd_dic r1
    exact ⟨a, o, vs, rfl, ha, k _ _ rfl _ _ H1 (e1.pinned (dic_pins ha da)) k1 iter_items⟩
end
section
variable {X : Cx} {at_ : Addr → Nat} {E : SK} {e e2 tg o : Expr} {m mk md : M Dat} {mi : M (List Dat)} {pos pos' apos cpos p : Pos}
theorem vi_zip {elts : List Expr} {kk : Nat} {tpos : Pos} (hg : Gl X "zip") (hm : X.mg "zip" = none) (h : PVA X at_ E [e, e2] mi) (hs : starEach [e, e2] X.env = (false, eval e X.env) :: starEach [e2] X.env := by rfl) (hpl : (backTo pos (starEach [e2] X.env)).any (·.1) = false := by rfl) :
    PVI X at_ E (.Tuple elts kk tpos) (.Call (.Name "zip" p) [e, e2] [] pos) (mItA zipO mi) := let ⟨_, p1, v1⟩ := h; ⟨_, RZ.pi_zipA hg hm p1 hs hpl, i_zip v1⟩
theorem vi_enum {elts : List Expr} {kk : Nat} {tpos : Pos} (hg : Gl X "enumerate") (hm : X.mg "enumerate" = none) (h : PVA X at_ E [e] mi) (hs : starEach [e] X.env = [(false, eval e X.env)] := by rfl) :
    PVI X at_ E (.Tuple elts kk tpos) (.Call (.Name "enumerate" p) [e] [] pos) (mItA enumO mi) := let ⟨_, p1, v1⟩ := h; ⟨_, pi_enum hg hm p1 hs, i_enum v1⟩
theorem vi_keys (h : PV X at_ E e m) : PVI X at_ E tg e (mSeqO keysO m) := let ⟨_, p1, v1⟩ := h; ⟨_, pi_keys p1, i_keys v1⟩
theorem vi_items {elts : List Expr} {kk : Nat} {tpos : Pos} (h : PV X at_ E e m) (hbase : attributeBase e "items" X.env (eval e X.env) = eval e X.env := by rfl) (hline : (apos.endLine == cpos.line) = true := by rfl) :
    PVI X at_ E (.Tuple elts kk tpos) (.Call (.Attribute e "items" apos) [] [] cpos) (mSeqO itemsO m) := let ⟨_, p1, v1⟩ := h; ⟨_, pi_items p1 hbase hline, i_items v1⟩
/-! ### things that change -/
theorem q_append {i : Nat} (ho : PE X o (tVar i)) (h : PV X at_ E e m)
    (hbase : attributeBase o "append" X.env (eval o X.env) = eval o X.env := by rfl)
    (hfew : ((backTo cpos (starEach [e] X.env)).all (fun x => !x.1) && (backToKw cpos (keywordEach [] X.env)).all (fun x => x.1.isSome) && decide (([e] : List Expr).length + ([] : List Keyword).length + (if ([] : List Keyword).isEmpty then 0 else 1) < 30)) = true := by rfl)
    (hline : (apos.endLine == cpos.line) = true := by rfl) (hs : starEach [e] X.env = (false, eval e X.env) :: starEach [] X.env := by rfl) (hplain : (backTo cpos (starEach [] X.env)).any (·.1) = false := by rfl) :
    PV X at_ E (.Call (.Attribute o "append" apos) [e] [] cpos) (mAppend i m) :=
  let ⟨_, p1, v1⟩ := h; ⟨_, pe_bm PySem.F.plainAttrs_list PySem.F.slot_list_append PySem.F.type_list_append mt_append ho (pa_cons p1 pa_nil hs) hbase hfew hline hs hplain, ev_append v1⟩
theorem q_popAt {i : Nat} (ho : PE X o (tVar i)) (h : PV X at_ E e m)
    (hbase : attributeBase o "pop" X.env (eval o X.env) = eval o X.env := by rfl)
    (hfew : ((backTo cpos (starEach [e] X.env)).all (fun x => !x.1) && (backToKw cpos (keywordEach [] X.env)).all (fun x => x.1.isSome) && decide (([e] : List Expr).length + ([] : List Keyword).length + (if ([] : List Keyword).isEmpty then 0 else 1) < 30)) = true := by rfl)
    (hline : (apos.endLine == cpos.line) = true := by rfl) (hs : starEach [e] X.env = (false, eval e X.env) :: starEach [] X.env := by rfl) (hplain : (backTo cpos (starEach [] X.env)).any (·.1) = false := by rfl) :
    PV X at_ E (.Call (.Attribute o "pop" apos) [e] [] cpos) (mPopAt i m) :=
  let ⟨_, p1, v1⟩ := h; ⟨_, pe_bm PySem.F.plainAttrs_list PySem.F.slot_list_pop PySem.F.type_list_pop mt_popAt ho (pa_cons p1 pa_nil hs) hbase hfew hline hs hplain, ev_popAt v1⟩
theorem v_setIx {i : Nat} (ho : PE X o (tVar i)) (hk : PV X at_ E e mk) (hv : PV X at_ E e2 m)
    (ha : ∀ v, assign (.Subscript o e pos') X.env v = (do
      let ov ← holding [v] (eval o X.env)
      let iv ← holding [v, ov] (eval e X.env)
      standAt pos'
      holding [v, ov, iv] (setItem ov iv v)
      release [v, ov, iv] []) := by intro _; rfl)
    (hs : swapsWithSole [.Subscript o e pos'] e2 pos.line X.env = pure false := by rfl) (hw : swappedStores [.Subscript o e pos'] e2 X.env = pure none := by rfl) (h1 : (assignEach [.Subscript o e pos'] X.env).map (·.2) = [assign (.Subscript o e pos') X.env] := by rfl) :
    PVS X at_ E (.Assign [.Subscript o e pos'] e2 pos) (mSetIx i mk m) :=
  let ⟨_, p1, v1⟩ := hk; let ⟨_, p2, v2⟩ := hv; ⟨_, ps_asg p2 (pg_sub ho p1 set_list ha) hs hw h1, s_setIx v1 v2⟩
theorem v_put {i : Nat} (hu : X.A.units + 1 < cLine) (ho : PE X o (tVar i)) (hk : PV X at_ E e mk) (hv : PV X at_ E e2 m) (hs : swapsWith e2 (some (.Subscript o e pos')) pos.line X.env = pure false := by rfl) :
    PVS X at_ E (.Assign [.Subscript o e pos'] e2 pos) (mPutM i mk m) :=
  let ⟨_, p1, v1⟩ := hk; let ⟨_, p2, v2⟩ := hv; ⟨_, ps_dput hu ho p1 p2 hs, s_putM v1 v2⟩
theorem q_getM {i : Nat} (hu : X.A.units + 1 < cLine) (ho : PE X o (tVar i)) (hk : PV X at_ E e mk) (hd : PV X at_ E e2 md) (m2 : M2 X o "get" apos e e2 cpos := by exact ⟨rfl, rfl, rfl, rfl⟩) : PV X at_ E (.Call (.Attribute o "get" apos) [e, e2] [] cpos) (mGetM i mk md) :=
  let ⟨_, p1, v1⟩ := hk; let ⟨_, p2, v2⟩ := hd; ⟨_, pe_dget2 hu ho p1 p2 m2, ev_getM v1 v2⟩
theorem q_getD (hu : X.A.units + 1 < cLine) (ho : PV X at_ E o m) (hk : PV X at_ E e mk) (hd : PV X at_ E e2 md) (m2 : M2 X o "get" apos e e2 cpos := by exact ⟨rfl, rfl, rfl, rfl⟩) : PV X at_ E (.Call (.Attribute o "get" apos) [e, e2] [] cpos) (mGetD m mk md) :=
  let ⟨_, p0, v0⟩ := ho; let ⟨_, p1, v1⟩ := hk; let ⟨_, p2, v2⟩ := hd; ⟨_, pe_dget2 hu p0 p1 p2 m2, ev_getD v0 v1 v2⟩
theorem q_ixD (hu : X.A.units + 1 < cLine) (ho : PV X at_ E o m) (hk : PV X at_ E e mk) (hs : NoSl e := by exact fun _ _ => rfl) : PV X at_ E (.Subscript o e pos) (mIxD m mk) :=
  let ⟨_, p0, v0⟩ := ho; let ⟨_, p1, v1⟩ := hk; ⟨_, pe_dget hu p0 p1 hs, ev_ixD v0 v1⟩
theorem q_ixM {i : Nat} (ho : PE X o (tVar i)) (hk : PV X at_ E e mk) (hs : NoSl e := by exact fun _ _ => rfl) : PV X at_ E (.Subscript o e pos) (mIxM i mk) :=
  let ⟨_, p1, v1⟩ := hk; ⟨_, pe_ix ix_seq ho p1 hs, ev_ixM v1⟩
end
end DL

set_option Elab.async false
set_option linter.all false
set_option maxRecDepth 100000
set_option maxHeartbeats 4000000
/-! D11: operators of own classes (instances with a dict). -/
namespace DL
open PySem PySem.Spec PyProof.Rows L2 GX Builtin
/-! ### an integer on the left -/
theorem int_add_ref (a : Int) (t : Tok) (l : Addr) (o : Obj) (ho : o.data = .plain) :
    Meets (Builtin.«int.__add__» ⟨[.int a t, .ref l], []⟩) (fun _ R s => s.heap.get? l = some o ∧ R (.ok (.ret Value.notImplemented)) s) :=
  .of_wp fun prog w A R s h => by
    obtain ⟨c, d, dt, sl⟩ := o
    subst ho
    obtain ⟨hp, g, d, tk, os⟩ := s
    obtain ⟨hl, h⟩ := h
    wp_walk
    exact ⟨_, rfl, h⟩
theorem int_sub_ref (a : Int) (t : Tok) (l : Addr) (o : Obj) (ho : o.data = .plain) :
    Meets (Builtin.«int.__sub__» ⟨[.int a t, .ref l], []⟩) (fun _ R s => s.heap.get? l = some o ∧ R (.ok (.ret Value.notImplemented)) s) :=
  .of_wp fun prog w A R s h => by
    obtain ⟨c, d, dt, sl⟩ := o
    subst ho
    obtain ⟨hp, g, d, tk, os⟩ := s
    obtain ⟨hl, h⟩ := h
    wp_walk
    exact ⟨_, rfl, h⟩
theorem int_mul_ref (a : Int) (t : Tok) (l : Addr) (o : Obj) (ho : o.data = .plain) :
    Meets (Builtin.«int.__mul__» ⟨[.int a t, .ref l], []⟩) (fun _ R s => s.heap.get? l = some o ∧ R (.ok (.ret Value.notImplemented)) s) :=
  .of_wp fun prog w A R s h => by
    obtain ⟨c, d, dt, sl⟩ := o
    subst ho
    obtain ⟨hp, g, d, tk, os⟩ := s
    obtain ⟨hl, h⟩ := h
    wp_walk
    exact ⟨_, rfl, h⟩
open PySem.W in
theorem binop_intL {prog : Program} {w : World} {A : Around} {E : Value → Shared → Prop} {s : Shared} {K : Frag} {x C f fr : Addr} {ox : Obj} {od : Option Obj} {op : Operator} {nm : String} {a : Int} {t : Tok} {Q : Value → Shared → Prop} (X : K.In s.heap) (I : InstAt s.heap x ox C od)
    (hn : op.info.2 = nm) (hc : selfFirst K C = true) (hs : findIn K (.ref C) (PySem.dunder nm) = some (some (.ref f))) (hr : findIn K (.ref C) (PySem.dunderR nm) = some (some (.ref fr))) (hf : isFn K (.ref fr) = true) (hsub : subIn K (.ref C) (.type "int") = some false)
    (fills : fillsNumberSlot (.type "int") nm = pure true)
    (left : ∀ (Q' : Option Value → Shared → Prop), Q' none s → wpAny (model prog w) A (tryMethod (.int a t) (PySem.dunder nm) (.ref x)) Q' E s)
    (h : wpAny (model prog w) A (call (.ref fr) [.ref x, .int a t]) (PySem.W.CmpBack Q) E s) : wpAny (model prog w) A (binaryOp op (.int a t) (.ref x)) Q E s := by
  obtain ⟨cd, rest, hcd, hm⟩ := ksp_first hc
  have one := ksp_try X I hr hf h
  rcases hi : op.info with ⟨sym, nm'⟩
  rw [hi] at hn
  dsimp only at hn
  subst hn
  obtain ⟨hh, g, d, tt, os⟩ := s
  have L1 : Looks (model prog w) hh (typeOf (.int a t)) (.type "int") := Looks.of_pure rfl
  have L2 : Looks (model prog w) hh (typeOf (.ref x)) (.ref C) := I.type
  have L3 : Looks (model prog w) hh (fillsNumberSlot (.type "int") nm') true := Looks.of_pure fills
  have L4 : Looks (model prog w) hh (fillsNumberSlot (.ref C) nm') true := fills_K X hcd hm hs
  have L5 : Looks (model prog w) hh (isSubtype (.ref C) (.type "int")) false := looks_subIn X hsub
  have L7 : Looks (model prog w) hh (numberSlotInPython (.type "int") nm') false := Looks.of_pure rfl
  have hne : (Value.type "int" == Value.ref C) = false := Bool.eq_false_iff.mpr fun q => by cases beq_iff_eq.mp q
  simp only [binaryOp, hi]
  refine wpAny_holding (wpAny_bind ?_)
  unfold binaryOp1
  refine wpAny_bind (L1.at (wpAny_bind (L2.at (wpAny_bind (L3.at ?_)))))
  rw [if_neg (fun z => absurd (hne.symm.trans z) (by decide))]
  refine wpAny_bind (L4.at ?_)
  show wpAny _ _ (isSubtype (.ref C) (.type "int") >>= _) _ _ _
  refine wpAny_bind (L5.at ?_)
  rw [if_neg Bool.false_ne_true]
  refine wpAny_ite_false (c := false = true) rfl ?_
  refine wpAny_ite_true (c := (true && true && !false) = true) rfl ?_
  refine wpAny_bind (L7.at ?_)
  refine wpAny_ite_false (c := false = true) rfl ?_
  refine wpAny_ite_true (c := true = true) rfl ?_
  refine wpAny_bind (left _ ?_)
  refine wpAny_ite_false (c := false = true) rfl ?_
  refine wpAny_ite_true (c := (true && !false) = true) rfl ?_
  refine wpAny_bind (wpAny_mono one (fun r s' hr' => ?_) fun _ _ e => e)
  obtain ⟨v, rfl, hq⟩ := hr'
  exact wpAny_bind (wpAny_rule (wpAny_pure (wpAny_pure hq)))
theorem left_add {prog : Program} {w : World} {A : Around} {E : Value → Shared → Prop} {s : Shared} {x : Addr} {ox : Obj} {a : Int} {t : Tok} (hx : s.heap.get? x = some ox) (hp : ox.data = .plain) (Q' : Option Value → Shared → Prop) (h : Q' none s) : wpAny (model prog w) A (tryMethod (.int a t) (PySem.dunder "add") (.ref x)) Q' E s := by
  have hc : wpAny (model prog w) A (call (.builtin "int.__add__") [.int a t, .ref x]) (fun v s' => v = .notImplemented ∧ Q' none s') E s := by
    refine call_meets (self := .int a t) (rest := [.ref x]) F.slot_int_add (typeIs_int s a t) F.entry_int_add (F.args_int_add_2 (.int a t) (.ref x)) (int_add_ref a t x ox hp) ?_
    refine And.intro hx ?_
    show Value.notImplemented = Value.notImplemented ∧ Q' none s
    exact ⟨rfl, h⟩
  exact @PySem.wpAny_tryMethod_declines (model prog w) A E s (.int a t) (.ref x) "int" (PySem.dunder "add") "int.__add__" Q' (typeIs_int s a t) F.slot_int_add hc
theorem left_sub {prog : Program} {w : World} {A : Around} {E : Value → Shared → Prop} {s : Shared} {x : Addr} {ox : Obj} {a : Int} {t : Tok} (hx : s.heap.get? x = some ox) (hp : ox.data = .plain) (Q' : Option Value → Shared → Prop) (h : Q' none s) : wpAny (model prog w) A (tryMethod (.int a t) (PySem.dunder "sub") (.ref x)) Q' E s := by
  have hc : wpAny (model prog w) A (call (.builtin "int.__sub__") [.int a t, .ref x]) (fun v s' => v = .notImplemented ∧ Q' none s') E s := by
    refine call_meets (self := .int a t) (rest := [.ref x]) F.slot_int_sub (typeIs_int s a t) F.entry_int_sub (F.args_int_sub_2 (.int a t) (.ref x)) (int_sub_ref a t x ox hp) ?_
    refine And.intro hx ?_
    show Value.notImplemented = Value.notImplemented ∧ Q' none s
    exact ⟨rfl, h⟩
  exact @PySem.wpAny_tryMethod_declines (model prog w) A E s (.int a t) (.ref x) "int" (PySem.dunder "sub") "int.__sub__" Q' (typeIs_int s a t) F.slot_int_sub hc
theorem left_mul {prog : Program} {w : World} {A : Around} {E : Value → Shared → Prop} {s : Shared} {x : Addr} {ox : Obj} {a : Int} {t : Tok} (hx : s.heap.get? x = some ox) (hp : ox.data = .plain) (Q' : Option Value → Shared → Prop) (h : Q' none s) : wpAny (model prog w) A (tryMethod (.int a t) (PySem.dunder "mul") (.ref x)) Q' E s := by
  have hc : wpAny (model prog w) A (call (.builtin "int.__mul__") [.int a t, .ref x]) (fun v s' => v = .notImplemented ∧ Q' none s') E s := by
    refine call_meets (self := .int a t) (rest := [.ref x]) F.slot_int_mul (typeIs_int s a t) F.entry_int_mul (F.args_int_mul_2 (.int a t) (.ref x)) (int_mul_ref a t x ox hp) ?_
    refine And.intro hx ?_
    show Value.notImplemented = Value.notImplemented ∧ Q' none s
    exact ⟨rfl, h⟩
  exact @PySem.wpAny_tryMethod_declines (model prog w) A E s (.int a t) (.ref x) "int" (PySem.dunder "mul") "int.__mul__" Q' (typeIs_int s a t) F.slot_int_mul hc
end DL

set_option Elab.async false
set_option linter.all false
set_option maxRecDepth 100000
set_option maxHeartbeats 4000000
/-! D12: operators, items, calls, kinds of own classes, told by mirrors. -/
namespace DL
open PySem PySem.Spec PyProof.Rows L2 GX
/-! ### what of the text a class must have -/
structure BinF (K : PySem.W.Frag) (C : Addr) (nm : String) (f : Addr) : Prop where
  first : PySem.W.selfFirst K C = true
  at_ : PySem.W.findIn K (.ref C) (PySem.dunder nm) = some (some (.ref f))
  fn : PySem.W.isFn K (.ref f) = true
  rc : ∃ rc, PySem.W.findIn K (.ref C) (PySem.dunderR nm) = some rc ∧ (rc = none ∨ ∃ g : Addr, rc = some (.ref g))
  il : ∃ fo, PySem.W.findIn K (.type "int") (PySem.dunder nm) = some fo
  ir : ∃ ro, PySem.W.findIn K (.type "int") (PySem.dunderR nm) = some ro
  sub : PySem.W.subIn K (.type "int") (.ref C) = some false
structure RefF (K : PySem.W.Frag) (C : Addr) (nm : String) (f fr : Addr) : Prop where
  first : PySem.W.selfFirst K C = true
  at_ : PySem.W.findIn K (.ref C) (PySem.dunder nm) = some (some (.ref f))
  r : PySem.W.findIn K (.ref C) (PySem.dunderR nm) = some (some (.ref fr))
  fn : PySem.W.isFn K (.ref fr) = true
  sub : PySem.W.subIn K (.ref C) (.type "int") = some false
def InsH (H : Hp) (C : Addr) (v : V) : Prop := ∃ a dx fs, v = .ref a ∧ H a = some (.ins C dx fs)
/-- x op y, the def of x's class; y one, too, or an int -/
def rOwnB (C : Addr) (sp : Sp) (E : XK) : R2 := fun x y H Q => InsH H C x ∧ (InsH H C y ∨ ∃ i, y = .int i) ∧ sp [x, y] H Q E
def rOwnR (C : Addr) (sp : Sp) (E : XK) : R2 := fun x y H Q => (∃ i, x = .int i) ∧ InsH H C y ∧ sp [y, x] H Q E
def rOwnC (C : Addr) (sp : Sp) (E : XK) : R2 := fun x y H Q => InsH H C x ∧ InsH H C y ∧ sp [x, y] H Q E
def rOwnU (C : Addr) (sp : Sp) (E : XK) : V → Hp → VK → Prop := fun x H Q => InsH H C x ∧ sp [x] H Q E
def rOwnX (C : Addr) (sp : Sp) (E : XK) : R2 := fun x y H Q => InsH H C x ∧ sp [x, y] H Q E
def rOwnI (neg : Bool) (C : Addr) (sp : Sp) (E : XK) : R2 := fun x y H Q => InsH H C y ∧ sp [y, x] H (fun v H' => ∃ b, v = .bl b ∧ Q (.bl (if neg = true then !b else b)) H') E
section
variable {X : Cx} {CX : CXT} {pins : List (Addr × Obj)} {σ : L2.St} {H : Hp} {s : Shared} {C f fr : Addr} {n : Nat} {sp : Sp} {E : XK}
theorem insH_at (I : Inv X pins σ H s) {v : V} (h : InsH H C v) : ∃ a od dx, v = .ref a ∧ PySem.W.InstAt s.heap a (PySem.W.instObj C dx) C (some od) := by
  obtain ⟨a, dx, fs, rfl, ha⟩ := h
  obtain ⟨mA, J, _⟩ := ins_get I.hok ha
  obtain ⟨od, J, _⟩ := J.look
  exact ⟨a, od, dx, rfl, J⟩
theorem op_ownB {op : Operator} (F0 : BinF X.K C op.info.2 f) (F : FnR X.prog X.w X.K X.mg X.base CX n f sp) (hr : Room n X.A) (hx : Passes CX X E) : OpR X (binaryOp op) (rOwnB C sp E) := by
  intro pins s σ H x y v u Q I rx ry h
  obtain ⟨hx1, hy, q⟩ := h
  obtain ⟨a, od, dx, rfl, J⟩ := insH_at I hx1
  cases (show v = Value.ref a from rx)
  obtain ⟨m, hF⟩ := I.fr
  rcases hy with hy | ⟨i, rfl⟩
  · obtain ⟨b, od2, dy, rfl, J2⟩ := insH_at I hy
    cases (show u = Value.ref b from ry)
    refine PySem.W.binop_K hF I.ok.mod.kin J J2.type F0.first F0.at_ F0.fn ?_
    refine wpAny_mono (wpAny_call (run_fnR (us := [.ref a, .ref b]) (vs := [.ref a, .ref b]) F hr hx I (.cons rfl (.cons rfl .nil)) q)) (fun w s' z => ?_) fun _ _ x => x
    obtain ⟨z', H', I', rz, qz⟩ := z
    exact SlX.cmpback rz ⟨z', H', I', rz, qz⟩
  · obtain ⟨t, e⟩ := (show ∃ t, u = Value.int i t from ry)
    subst e
    obtain ⟨rc, h1, h2⟩ := F0.rc
    obtain ⟨fo, h3⟩ := F0.il
    obtain ⟨ro, h4⟩ := F0.ir
    refine PySem.W.ksp_binT (T := "int") hF I.ok.mod.kin J rfl F0.first F0.at_ F0.fn h1 h2 h3 h4 F0.sub ?_
    refine wpAny_mono (wpAny_call (run_fnR (us := [.ref a, .int i t]) (vs := [.ref a, .int i]) F hr hx I (.cons rfl (.cons ⟨t, rfl⟩ .nil)) q)) (fun w s' z => ?_) fun _ _ x => x
    obtain ⟨z', H', I', rz, qz⟩ := z
    exact SlX.cmpback rz ⟨z', H', I', rz, qz⟩
theorem op_ownR {op : Operator} {nm : String} (hn : op.info.2 = nm) (F0 : RefF X.K C nm f fr) (F : FnR X.prog X.w X.K X.mg X.base CX n fr sp) (hr : Room n X.A) (hx : Passes CX X E) (fills : fillsNumberSlot (.type "int") nm = pure true)
    (left : ∀ {A : Around} {E' : Value → Shared → Prop} {s : Shared} {x : Addr} {ox : Obj} {a : Int} {t : Tok}, s.heap.get? x = some ox → ox.data = .plain → ∀ (Q' : Option Value → Shared → Prop), Q' none s → wpAny (model X.prog X.w) A (tryMethod (.int a t) (PySem.dunder nm) (.ref x)) Q' E' s) :
    OpR X (binaryOp op) (rOwnR C sp E) := by
  intro pins s σ H x y v u Q I rx ry h
  obtain ⟨⟨i, rfl⟩, hy, q⟩ := h
  obtain ⟨b, od2, dy, rfl, J2⟩ := insH_at I hy
  cases (show u = Value.ref b from ry)
  obtain ⟨t, e⟩ := (show ∃ t, v = Value.int i t from rx)
  subst e
  refine binop_intL I.kIn J2 hn F0.first F0.at_ F0.r F0.fn F0.sub fills (fun Q' hq => left J2.at_ rfl Q' hq) ?_
  refine wpAny_mono (wpAny_call (run_fnR (us := [.ref b, .int i t]) (vs := [.ref b, .int i]) F hr hx I (.cons rfl (.cons ⟨t, rfl⟩ .nil)) q)) (fun w s' z => ?_) fun _ _ x => x
  obtain ⟨z', H', I', rz, qz⟩ := z
  exact SlX.cmpback rz ⟨z', H', I', rz, qz⟩
theorem op_ownC {op : CmpOp} (hop : ∀ a b, compareOp op a b = richCompare op a b) (hs : PySem.W.findIn X.K (.ref C) (cmpInfo op).2.1 = some (some (.ref f))) (hf : PySem.W.isFn X.K (.ref f) = true) (F : FnR X.prog X.w X.K X.mg X.base CX n f sp) (hr : Room n X.A) (hx : Passes CX X E) :
    OpR X (compareOp op) (rOwnC C sp E) := by
  intro pins s σ H x y v u Q I rx ry h
  obtain ⟨hx1, hy, q⟩ := h
  obtain ⟨a, od, dx, rfl, J⟩ := insH_at I hx1
  obtain ⟨b, od2, dy, rfl, J2⟩ := insH_at I hy
  cases (show v = Value.ref a from rx)
  cases (show u = Value.ref b from ry)
  obtain ⟨m, hF⟩ := I.fr
  rw [hop]
  refine PySem.W.cmp_K (op := op) (tb := .ref C) hr.units0 hF I.ok.mod.kin J J2.type (by simp [PySem.W.notFirst]) hs hf ?_
  refine wpAny_mono (wpAny_call (run_fnR (us := [.ref a, .ref b]) (vs := [.ref a, .ref b]) F hr hx I (.cons rfl (.cons rfl .nil)) q)) (fun w s' z => ?_) fun _ _ x => x
  obtain ⟨z', H', I', rz, qz⟩ := z
  exact SlX.cmpback rz ⟨z', H', I', rz, qz⟩
theorem un_own (hs : PySem.W.findIn X.K (.ref C) "__neg__" = some (some (.ref f))) (hf : PySem.W.isFn X.K (.ref f) = true) (F : FnR X.prog X.w X.K X.mg X.base CX n f sp) (hr : Room n X.A) (hx : Passes CX X E) : UnR X (unaryOp .USub) (rOwnU C sp E) := by
  intro pins s σ H x v Q I rx h
  obtain ⟨hx1, q⟩ := h
  obtain ⟨a, od, dx, rfl, J⟩ := insH_at I hx1
  cases (show v = Value.ref a from rx)
  obtain ⟨m, hF⟩ := I.fr
  exact PySem.W.ksp_neg hF I.ok.mod.kin J hs hf (wpAny_call (run_fnR (us := [.ref a]) (vs := [.ref a]) F hr hx I (.cons rfl .nil) q))
theorem un_inv (hs : PySem.W.findIn X.K (.ref C) "__invert__" = some (some (.ref f))) (hf : PySem.W.isFn X.K (.ref f) = true) (F : FnR X.prog X.w X.K X.mg X.base CX n f sp) (hr : Room n X.A) (hx : Passes CX X E) : UnR X (unaryOp .Invert) (rOwnU C sp E) := by
  intro pins s σ H x v Q I rx h
  obtain ⟨hx1, q⟩ := h
  obtain ⟨a, od, dx, rfl, J⟩ := insH_at I hx1
  cases (show v = Value.ref a from rx)
  obtain ⟨m, hF⟩ := I.fr
  exact PySem.W.ksp_inv hF I.ok.mod.kin J hs hf (wpAny_call (run_fnR (us := [.ref a]) (vs := [.ref a]) F hr hx I (.cons rfl .nil) q))
theorem op_ownIn (hs : PySem.W.findIn X.K (.ref C) "__contains__" = some (some (.ref f))) (hf : PySem.W.isFn X.K (.ref f) = true) (F : FnR X.prog X.w X.K X.mg X.base CX n f sp) (hr : Room n X.A) (hx : Passes CX X E) : OpR X (compareOp .In) (rOwnI false C sp E) := by
  intro pins s σ H x y v u Q I rx ry h
  obtain ⟨hy, q⟩ := h
  obtain ⟨a, od, dx, rfl, J⟩ := insH_at I hy
  cases (show u = Value.ref a from ry)
  obtain ⟨m, hF⟩ := I.fr
  refine PySem.W.in_K hF I.ok.mod.kin J hs hf (wpAny_mono (wpAny_call (run_fnR (us := [.ref a, v]) (vs := [.ref a, x]) F hr hx I (.cons rfl (.cons rx .nil)) q)) (fun w s' z => ?_) fun _ _ x => x)
  obtain ⟨z', H', I', rz, b, rfl, qz⟩ := z
  cases (show w = Value.bool b from rz)
  exact wpAny_truthy_bool ⟨.bl b, H', I', rfl, qz⟩
theorem op_ownNin (hs : PySem.W.findIn X.K (.ref C) "__contains__" = some (some (.ref f))) (hf : PySem.W.isFn X.K (.ref f) = true) (F : FnR X.prog X.w X.K X.mg X.base CX n f sp) (hr : Room n X.A) (hx : Passes CX X E) : OpR X (compareOp .NotIn) (rOwnI true C sp E) := by
  intro pins s σ H x y v u Q I rx ry h
  obtain ⟨hy, q⟩ := h
  obtain ⟨a, od, dx, rfl, J⟩ := insH_at I hy
  cases (show u = Value.ref a from ry)
  obtain ⟨m, hF⟩ := I.fr
  refine PySem.W.notIn_K hF I.ok.mod.kin J hs hf (wpAny_mono (wpAny_call (run_fnR (us := [.ref a, v]) (vs := [.ref a, x]) F hr hx I (.cons rfl (.cons rx .nil)) q)) (fun w s' z => ?_) fun _ _ x => x)
  obtain ⟨z', H', I', rz, b, rfl, qz⟩ := z
  cases (show w = Value.bool b from rz)
  exact wpAny_truthy_bool ⟨.bl (!b), H', I', rfl, qz⟩
end
end DL

set_option Elab.async false
set_option linter.all false
set_option maxRecDepth 100000
set_option maxHeartbeats 4000000
/-! D13: != by an own ==. -/
namespace DL
open PySem PySem.Spec PyProof.Rows L2 GX Builtin
section
variable {prog : Program} {w : World} {A : Around} {E : Value → Shared → Prop} {s : Shared} {K : PySem.W.Frag} {x y C f : Addr} {ox : Obj} {od : Option Obj}
theorem objNe_K (X : K.In s.heap) (I : PySem.W.InstAt s.heap x ox C od) (hs : PySem.W.findIn K (.ref C) "__eq__" = some (some (.ref f))) (hf : PySem.W.isFn K (.ref f) = true) (hu : A.units < cLine) {Q : Fin → Shared → Prop}
    (hcall : wpAny (model prog w) A (call (.ref f) [.ref x, .ref y]) (fun v s' => ∃ b, v = .bool b ∧ Q (.done (.ret (.bool (!b)))) s') E s) :
    wpAny (model prog w) A (Builtin.«object.__ne__» ⟨[.ref x, .ref y], []⟩) Q E s := by
  unfold Builtin.«object.__ne__»
  repeat (first
    | with_reducible refine wpAny_cRoomFor hu ?_
    | (refine wpAny_bind (m := callSpecialIfBound? (.ref x) (Str.ofString "__eq__") [.ref y])
        (PySem.W.ifBound_K X I hs hf (wpAny_mono hcall (fun r s' hr => by
          obtain ⟨b, rfl, hq⟩ := hr
          repeat (first | exact hq | exact wpAny_pure hq | exact wpAny_truthy_bool hq | (refine wpAny_bind (m := truthy (.bool _)) (wpAny_truthy_bool ?_)) | wp_step)) fun _ _ e => e)))
    | wp_step)
theorem ne_K (X : K.In s.heap) (I : PySem.W.InstAt s.heap x ox C od) (hy : PySem.W.Looks (model prog w) s.heap (typeOf (.ref y)) (.ref C)) (hn : PySem.W.findIn K (.ref C) "__ne__" = some (some (.builtin "object.__ne__")))
    (hs : PySem.W.findIn K (.ref C) "__eq__" = some (some (.ref f))) (hf : PySem.W.isFn K (.ref f) = true) (hm : PySem.W.mroIn K C (.type "object") = some true) (hu : A.units + 1 < cLine) {Q : Value → Shared → Prop}
    (hcall : wpAny (model prog w) A.in1 (call (.ref f) [.ref x, .ref y]) (fun v s' => ∃ b, v = .bool b ∧ Q (.bool (!b)) s') E s) : wpAny (model prog w) A (richCompare .NotEq (.ref x) (.ref y)) Q E s := by
  have one : wpAny (model prog w) A (tryCompare (.ref x) "__ne__" (.ref y)) (fun r s' => ∃ v, r = some v ∧ Q v s') E s := by
    have sub : PySem.W.Looks (model prog w) s.heap (isInstance (.ref x) (.type "object")) true := I.type.andThen (PySem.W.looks_mroIn X hm)
    have hcall2 : wpAny (model prog w) A (call (.builtin "object.__ne__") [.ref x, .ref y]) (fun v s' => ∃ b, v = .bool b ∧ Q (.bool b) s') E s := by
      refine wpAny_call (codeAny_call_builtin F.cmp_object.ne.plain F.cmpEntry_ne (@PySem.W.check_slot (model prog w) _ _ s "object.__ne__" "object" "__ne__" (.ref x) [.ref y] [] _ F.cmpKind_ne F.cmpSplit_ne sub (F.cmpArgs_ne _ _) ?_))
      refine objNe_K (A := A.in1) X I hs hf hu (wpAny_mono hcall (fun v s' hv => ?_) fun _ _ e => e)
      obtain ⟨b, rfl, q⟩ := hv
      exact ⟨b, rfl, !b, rfl, q⟩
    unfold tryCompare
    refine wpAny_bind ?_
    simp only [callSpecialIfBound?, bindSpecialIfBound?]
    refine wpAny_holding (wpAny_bind (wpAny_bind (wpAny_bind (I.type.here ((PySem.W.looks_findIn X hn).here ?_)))))
    simp only [F.cmp_object.ne.bind]
    refine wpAny_bind (wpAny_askSetting (wpAny_ite ?_))
    have fin : wpAny (model prog w) A (call (.builtin "object.__ne__") ([.ref x] ++ [.ref y]) >>= fun v => pure (some v)) (fun a s' => wpAny (model prog w) A (match a with | some Value.notImplemented | none => pure none | some v => pure (some v)) (fun r s' => ∃ v, r = some v ∧ Q v s') E s') E s := by
      refine wpAny_bind (wpAny_mono hcall2 (fun v s' h' => wpAny_pure ?_) fun _ _ h' => h')
      obtain ⟨b, rfl, q⟩ := h'
      exact wpAny_pure ⟨_, rfl, q⟩
    split
    · exact wpAny_bind (wpAny_pure (wpAny_pure fin))
    · exact wpAny_tryCatch (wpAny_bind (wpAny_pure (wpAny_pure fin)))
  unfold richCompare
  simp only [oneThing_ref]
  refine wpAny_holding (wpAny_bind (wpAny_cRoomFor (Nat.lt_of_succ_lt hu) ?_))
  rw [cmpInfo_NotEq]
  dsimp only
  refine wpAny_bind (I.type.here (wpAny_bind (hy.here ?_)))
  rw [show (Value.ref C != Value.ref C) = false from by simp]
  simp only [Bool.false_eq_true, if_false]
  refine wpAny_bind (wpAny_pure ?_)
  simp only [Bool.false_eq_true, if_false]
  refine wpAny_bind (wpAny_mono one (fun r s' z => ?_) fun _ _ e => e)
  obtain ⟨v, rfl, hq⟩ := z
  exact wpAny_pure hq
end
section
variable {X : Cx} {CX : CXT} {C f : Addr} {n : Nat} {sp : Sp} {E : XK}
def rOwnNe (C : Addr) (sp : Sp) (E : XK) : R2 := fun x y H Q => InsH H C x ∧ InsH H C y ∧ sp [x, y] H (fun v H' => ∃ b, v = .bl b ∧ Q (.bl (!b)) H') E
theorem op_ownNe (hn : PySem.W.findIn X.K (.ref C) "__ne__" = some (some (.builtin "object.__ne__"))) (hs : PySem.W.findIn X.K (.ref C) "__eq__" = some (some (.ref f))) (hf : PySem.W.isFn X.K (.ref f) = true) (hm : PySem.W.mroIn X.K C (.type "object") = some true)
    (F : FnR X.prog X.w X.K X.mg X.base CX n f sp) (hr : Room (n + 1) X.A) (hx : Passes CX X E) : OpR X (compareOp .NotEq) (rOwnNe C sp E) := by
  intro pins s σ H x y v u Q I rx ry h
  obtain ⟨hx1, hy, q⟩ := h
  obtain ⟨a, od, dx, rfl, J⟩ := insH_at I hx1
  obtain ⟨b, od2, dy, rfl, J2⟩ := insH_at I hy
  cases (show v = Value.ref a from rx)
  cases (show u = Value.ref b from ry)
  show wpAny (model X.prog X.w) X.A (richCompare .NotEq _ _) _ _ _
  refine ne_K I.kIn J J2.type hn hs hf hm (by have := hr.un; omega) ?_
  refine wpAny_mono (wpAny_call (SlX.run_at (us := [.ref a, .ref b]) (ws := [.ref a, .ref b]) F hr.in1 I.env0.in1 hx I (.cons rfl (.cons rfl .nil)) q)) (fun w s' z => ?_) fun _ _ x => x
  obtain ⟨z', H', I', rz, c, rfl, qz⟩ := z
  cases (show w = Value.bool c from rz)
  exact ⟨c, rfl, .bl (!c), H', I', rfl, qz⟩
end
end DL

set_option Elab.async false
set_option linter.all false
set_option maxRecDepth 100000
set_option maxHeartbeats 4000000
/-! D14: own operators by mirrors of their defs. -/
namespace DL
open PySem PySem.Spec PyProof.Rows L2 GX
def okV : Option RF → Option Dat
  | some (.ok d []) => some d
  | _ => none
def opOwn (c : Str) (F FR : FM) (f : Dat → Dat → Option Dat) : Dat → Dat → Option Dat
  | .obj c1 g1, .obj c2 g2 => if c1 = c ∧ c2 = c then okV (F [] [.obj c1 g1, .obj c2 g2]) else none
  | .obj c1 g1, .int i => if c1 = c then okV (F [] [.obj c1 g1, .int i]) else none
  | .int i, .obj c1 g1 => if c1 = c then okV (FR [] [.obj c1 g1, .int i]) else none
  | x, y => f x y
def cmpOwn (c : Str) (F : FM) (f : Dat → Dat → Option Dat) : Dat → Dat → Option Dat
  | .obj c1 g1, .obj c2 g2 => if c1 = c ∧ c2 = c then okV (F [] [.obj c1 g1, .obj c2 g2]) else none
  | x, y => f x y
def neOwn (c : Str) (F : FM) (f : Dat → Dat → Option Dat) : Dat → Dat → Option Dat
  | .obj c1 g1, .obj c2 g2 => if c1 = c ∧ c2 = c then ((okV (F [] [.obj c1 g1, .obj c2 g2])).bind asB).map fun b => .bl (!b) else none
  | x, y => f x y
def unOwn (c : Str) (F : FM) (f : Dat → Option Dat) : Dat → Option Dat
  | .obj c1 g1 => if c1 = c then okV (F [] [.obj c1 g1]) else none
  | x => f x
def ixOwn (c : Str) (F : FM) (f : Dat → Dat → Option Dat) : Dat → Dat → Option Dat
  | .obj c1 g1, y => if c1 = c then okV (F [] [.obj c1 g1, y]) else none
  | x, y => f x y
def inOwn (neg : Bool) (c : Str) (F : FM) (f : Dat → Dat → Option Dat) (x : Dat) : Dat → Option Dat
  | .obj c1 g1 => if c1 = c then ((okV (F [] [.obj c1 g1, x])).bind asB).map fun b => .bl (if neg = true then !b else b) else none
  | y => f x y
section
variable {W : Wd} {H : Hp} {c : Str} {C : Addr} {F FR : FM} {r : R2} {f : Dat → Dat → Option Dat}
theorem okV_some {o : Option RF} {d : Dat} (h : okV o = some d) : o = some (.ok d []) := by
  unfold okV at h
  split at h
  · cases h; rfl
  · cases h
theorem insH_dd {v : V} {gs : List (Str × Dat)} (hC : W.mg c = some (.ref C)) (h : DD W H v (.obj c gs)) : InsH H C v := by
  obtain ⟨a, C', dx, fs, rfl, hC', ha, _, _⟩ := dd_obj h
  cases mg_inj hC hC'
  exact ⟨a, dx, fs, rfl, ha⟩
/-- the def called, nothing raised -/
theorem call_ok {E1 : XK} {ar : Nat} {us : List V} {ds : List Dat} {z : Dat} {Q : VK} (hF : okV (F [] ds) = some z) (hd : DDs W H us ds) (hl : ds.length = ar) (k : ∀ u H', Same H H' → DD W H' u z → Q u H') : spF W 0 ar F us H Q E1 :=
  call_obj hd hl (okV_some hF) (fun d e v H' s dv => by cases e; exact k v H' s dv) (fun c w e => by cases e) (fun d os e => by cases e; rfl) (fun c w os e => by cases e)
theorem r2_opOwn (hC : W.mg c = some (.ref C)) (h : R2Ok W r f) : R2Ok W (fun x y H Q => (rOwnB C (spF W 0 2 F) L2.E0 x y H Q ∨ rOwnR C (spF W 0 2 FR) L2.E0 x y H Q) ∨ r x y H Q) (opOwn c F FR f) := fun H v w x y z Q hz hx hy k => by
  unfold opOwn at hz
  split at hz
  · split at hz
    · rename_i hc
      obtain ⟨rfl, rfl⟩ := hc
      exact .inl (.inl ⟨insH_dd hC hx, .inl (insH_dd hC hy), call_ok hz (.cons hx (.cons hy .nil)) rfl k⟩)
    · cases hz
  · split at hz
    · rename_i hc
      subst hc
      exact .inl (.inl ⟨insH_dd hC hx, .inr ⟨_, dd_int hy⟩, call_ok hz (.cons hx (.cons hy .nil)) rfl k⟩)
    · cases hz
  · split at hz
    · rename_i hc
      subst hc
      exact .inl (.inr ⟨⟨_, dd_int hx⟩, insH_dd hC hy, call_ok hz (.cons hy (.cons hx .nil)) rfl k⟩)
    · cases hz
  · exact .inr (h H v w x y z Q hz hx hy k)
theorem r2_cmpOwn (hC : W.mg c = some (.ref C)) (h : R2Ok W r f) : R2Ok W (fun x y H Q => rOwnC C (spF W 0 2 F) L2.E0 x y H Q ∨ r x y H Q) (cmpOwn c F f) := fun H v w x y z Q hz hx hy k => by
  unfold cmpOwn at hz
  split at hz
  · split at hz
    · rename_i hc
      obtain ⟨rfl, rfl⟩ := hc
      exact .inl ⟨insH_dd hC hx, insH_dd hC hy, call_ok hz (.cons hx (.cons hy .nil)) rfl k⟩
    · cases hz
  · exact .inr (h H v w x y z Q hz hx hy k)
theorem asB_bl {o : Option Dat} {b : Bool} (h : o.bind asB = some b) : o = some (.bl b) := by
  obtain ⟨d, h1, h2⟩ := Option.bind_eq_some_iff.mp h
  rw [h1, asB_some h2]
theorem r2_neOwn (hC : W.mg c = some (.ref C)) (h : R2Ok W r f) : R2Ok W (fun x y H Q => rOwnNe C (spF W 0 2 F) L2.E0 x y H Q ∨ r x y H Q) (neOwn c F f) := fun H v w x y z Q hz hx hy k => by
  unfold neOwn at hz
  split at hz
  · split at hz
    · rename_i hc
      obtain ⟨rfl, rfl⟩ := hc
      obtain ⟨b, hb, rfl⟩ := Option.map_eq_some_iff.mp hz
      exact .inl ⟨insH_dd hC hx, insH_dd hC hy, call_ok (asB_bl hb) (.cons hx (.cons hy .nil)) rfl fun u H' s du => ⟨b, dd_bl du, k _ H' s (.bl _)⟩⟩
    · cases hz
  · exact .inr (h H v w x y z Q hz hx hy k)
theorem r1_unOwn {r : V → Hp → VK → Prop} {f : Dat → Option Dat} (hC : W.mg c = some (.ref C)) (h : R1Ok W r f) : R1Ok W (fun x H Q => rOwnU C (spF W 0 1 F) L2.E0 x H Q ∨ r x H Q) (unOwn c F f) := fun H v x z Q hz hx k => by
  unfold unOwn at hz
  split at hz
  · split at hz
    · rename_i hc
      subst hc
      exact .inl ⟨insH_dd hC hx, call_ok hz (.cons hx .nil) rfl k⟩
    · cases hz
  · exact .inr (h H v x z Q hz hx k)
theorem r2_inOwn (neg : Bool) (hC : W.mg c = some (.ref C)) (h : R2Ok W r f) : R2Ok W (fun x y H Q => rOwnI neg C (spF W 0 2 F) L2.E0 x y H Q ∨ r x y H Q) (inOwn neg c F f) := fun H v w x y z Q hz hx hy k => by
  unfold inOwn at hz
  split at hz
  · split at hz
    · rename_i hc
      subst hc
      obtain ⟨b, hb, rfl⟩ := Option.map_eq_some_iff.mp hz
      exact .inl ⟨insH_dd hC hy, call_ok (asB_bl hb) (.cons hy (.cons hx .nil)) rfl fun u H' s du => ⟨b, dd_bl du, k _ H' s (.bl _)⟩⟩
    · cases hz
  · exact .inr (h H v w x y z Q hz hx hy k)
theorem r2_ixOwn (hC : W.mg c = some (.ref C)) (h : R2Ok W r f) : R2Ok W (fun x y H Q => rOwnX C (spF W 0 2 F) L2.E0 x y H Q ∨ r x y H Q) (ixOwn c F f) := fun H v w x y z Q hz hx hy k => by
  unfold ixOwn at hz
  split at hz
  · split at hz
    · rename_i hc
      subst hc
      exact .inl ⟨insH_dd hC hx, call_ok hz (.cons hx (.cons hy .nil)) rfl k⟩
    · cases hz
  · exact .inr (h H v w x y z Q hz hx hy k)
end
/-! ### kinds -/
structure IsoF (W : Wd) (cn : Str) (C : Addr) (cs : List Str) : Prop where
  c : W.mg cn = some (.ref C)
  ty : ∀ t, t ∈ (["NoneType", "bool", "int", "str", "list", "tuple", "dict"] : List String) → PySem.W.kitOne W.K (.type t) (.ref C) = some false
  ca : PySem.W.specialIn W.K (.builtin "object.__class__") "__get__" = some (some (.builtin "getset_descriptor.__get__"))
  ct : PySem.W.takesIn W.K (.builtin "object.__class__") = some true
  ob : ∀ c' C', c' ∈ cs → W.mg c' = some (.ref C') → Cls W.K C' ∧ PySem.W.findIn W.K (.ref C') "__class__" = some (some (.builtin "object.__class__")) ∧ PySem.W.mroIn W.K C' (.type "object") = some true ∧ PySem.W.kitOne W.K (.ref C') (.ref C) = some (decide (c' = cn))
def isoB (cn : Str) (cs : List Str) : Dat → Option Bool
  | .obj c' _ => if c' ∈ cs then some (decide (c' = cn)) else none
  | .exc _ _ => none
  | _ => some false
theorem isi_own {W : Wd} {cn : Str} {C : Addr} {cs : List Str} (F : IsoF W cn C cs) : IsiOk W (.ref C) (isoB cn cs) := fun H v d b Q h hv q => by
  have pl : ∀ t, tyName d = some t → t ∈ (["NoneType", "bool", "int", "str", "list", "tuple", "dict"] : List String) → b = false → rIsiA W.K [v, .ref C] H Q := fun t ht hm hb => by
    subst hb
    exact .inl ⟨v, _, _, _, false, rfl, .own C, tyX_dd hv ht, F.ty t hm, q⟩
  cases d with
  | obj c' gs =>
    have h : (if c' ∈ cs then some (decide (c' = cn)) else none) = some b := h
    split at h
    · rename_i hm
      cases h
      obtain ⟨a, C', dx, fs, rfl, hC', ha, _, _⟩ := dd_obj hv
      obtain ⟨h1, h2, h3, h4⟩ := F.ob c' C' hm hC'
      exact .inl ⟨_, _, _, _, _, rfl, .own C, .base (.ins ha h1 h2 F.ca F.ct h3), h4, q⟩
    · cases h
  | exc c' gs => cases h
  | non => cases h; exact pl _ rfl (by decide) rfl
  | bl x => cases h; exact pl _ rfl (by decide) rfl
  | int x => cases h; exact pl _ rfl (by decide) rfl
  | str x => cases h; exact pl _ rfl (by decide) rfl
  | lst x => cases h; exact pl _ rfl (by decide) rfl
  | tup x => cases h; exact pl _ rfl (by decide) rfl
  | dic x => cases h; exact pl _ rfl (by decide) rfl
end DL

set_option Elab.async false
set_option linter.all false
set_option maxRecDepth 100000
set_option maxHeartbeats 4000000
/-! D15: attributes, properties, methods, classes, calls of objects, raise: rules by mirrors. -/
namespace DL
open PySem PySem.Spec PyProof.Rows L2 GX
/-- a def of a class -/
structure CalM (P : Program) (w : World) (K : PySem.W.Frag) (mg : Str → Option Value) (base : Heap) (CX : CXT) (k : Nat) (C : Addr) (m : Str) (f : Addr) (sp : Sp) : Prop where
  ex : ∃ (fd : FuncData) (ps : List Str), FnOk P w K mg base CX k f fd ps sp ∧ Binds K fd ps []
  at_ : PySem.W.findIn K (.ref C) m = some (some (.ref f))
  fn : PySem.W.isFn K (.ref f) = true
  kp : PySem.W.keepIn K (.ref f) = true
  fi : PySem.W.fnIn K f = true
section
variable {P : Program} {w : World} {K : PySem.W.Frag} {mg : Str → Option Value} {base : Heap} {CX : CXT} {k j : Nat} {C f : Addr} {m : Str} {sp : Sp}
theorem CalM.r (c : CalM P w K mg base CX k C m f sp) : FnR P w K mg base CX k f sp := by
  obtain ⟨fd, ps, F, hb⟩ := c.ex
  exact (F.raw hb .nil).imp fun vs H Q E h => by rw [List.append_nil]; exact h
end
/-- a property: p the property's object, g its getter -/
structure CalP (P : Program) (w : World) (K : PySem.W.Frag) (mg : Str → Option Value) (base : Heap) (CX : CXT) (k : Nat) (C : Addr) (f : Str) (sp : Sp) : Prop where
  ex : ∃ (p g : Addr) (fd : FuncData) (ps : List Str), FnOk P w K mg base CX k g fd ps sp ∧ PropOf K C f p g ∧ Binds K fd ps []
/-- a class: its __init__, the defaults that fill up -/
structure CalC (P : Program) (w : World) (K : PySem.W.Frag) (mg : Str → Option Value) (base : Heap) (CX : CXT) (k : Nat) (x : Str) (C : Addr) (dvs : List V) (sp : Sp) : Prop where
  ex : ∃ (f : Addr) (fd : FuncData) (ps : List Str) (ds : List Value), FnOk P w K mg base CX k f fd ps sp ∧ Mk K C f ∧ Binds K fd ps ds ∧ Vals dvs ds
  hm : mg x = some (.ref C)
/-- the result of a call by an object's def -/
def resM (g : Frm) : Option RF → Option (R Dat)
  | some (.ok z []) => some (.ok z g)
  | some (.ex c w []) => some (.ex c w g)
  | _ => none
def mCallO (c : Str) (F : FM) (m : M Dat) (ma : M (List Dat)) : M Dat := bnd m fun d => match d with
  | .obj c' gs => if c' = c then bnd ma fun ds g => resM g (F [] (.obj c' gs :: ds)) else fun _ => none
  | _ => fun _ => none
section
variable {X : Cx} {W : Wd} {E : SK} {ps : List Addr} {pn : List (Pn W)} {ad : Nat → Addr} {g g' : Frm} {σ : L2.St} {H0 H H1 H' : Hp}
theorem resM_ok {o : Option RF} {r : R Dat} (h : resM g o = some r) : (∃ z, o = some (.ok z []) ∧ r = .ok z g) ∨ ∃ c w, o = some (.ex c w []) ∧ r = .ex c w g := by
  unfold resM at h
  split at h
  · cases h; exact .inl ⟨_, rfl, rfl⟩
  · cases h; exact .inr ⟨_, _, rfl, rfl⟩
  · cases h
theorem ev_callO {at_ : Addr → Nat} {c : Str} {C : Addr} {F : FM} {E1 : XK} {ar n : Nat} {tf : TE} {ta : TA} {m : M Dat} {ma : M (List Dat)} (hC : X.mg c = some (.ref C)) (hl : LenIs n ma) (har : 1 + n = ar)
    (h : EvE (Wx X at_) (fun _ => E1) tf m) (ha : EvA (Wx X at_) (fun _ => E1) ta ma) : EvE (Wx X at_) (fun _ => E1) (StX.tCallO X C (spF (Wx X at_) 0 ar F) E1 tf ta) (mCallO c F m ma) := fun ps pn ad g σ H0 H r Q hm e x k =>
  h.go hm e x fun d g1 v H1 f1 e1 k1 r1 x1 => by
    split at f1
    · rename_i c' gs
      split at f1
      · rename_i hc
        subst hc
        obtain ⟨a, C', dx, fs, rfl, hC', hat, hn, da⟩ := dd_obj r1
        cases mg_inj (W := Wx X at_) hC hC'
        refine ⟨a, rfl, Ev.goM (t := ta) ha f1 e1 x1 fun ds g2 us H2 m2 f2 e2 k2 d2 x2 => ?_⟩
        have dd2 : DDs (Wx X at_) H2 (.ref a :: us) (.obj c' gs :: ds) := .cons (r1.mo (e1.mo k2)) d2
        have hlen : (Dat.obj c' gs :: ds).length = ar := by
          rw [List.length_cons, hl ds _ _ m2]
          omega
        refine ⟨.inr ⟨dx, fs, (e1.mo k2) _ _ hn hat⟩, ?_⟩
        rcases resM_ok f2 with ⟨z, hz, rfl⟩ | ⟨c2, w2, hz, rfl⟩
        · exact call_obj dd2 hlen hz (fun d e v H' s dv => by cases e; exact k _ _ rfl v H' (e2.same s) ((k1.trans k2).trans (Kp.same s)) dv) (fun c w e => by cases e) (fun d os e => by cases e; rfl) (fun c w os e => by cases e)
        · exact call_obj dd2 hlen hz (fun d e => by cases e) (fun c w e C dx H' hc s xv => by cases e; exact x2 _ _ _ rfl C dx H' hc (e2.same s) (Kp.same s) xv) (fun d os e => by cases e) (fun c w os e => by cases e; rfl)
      · cases f1
    · cases f1
end
section
variable {X : Cx} {at_ : Addr → Nat} {E : SK} {E1 : XK} {CX : CXT} {j k n ar : Nat} {C f : Addr} {F : FM} {c x : Str} {p pos pos' apos p2 : Pos} {a b e o : Expr} {es : List Expr} {m ma mb : M Dat} {ml : M (List Dat)}
theorem q_fld {f : Str} (hf : ∀ C, X.mg c = some (.ref C) → Cls X.K C ∧ NoAttr X.K C f) (h : PV X at_ E e m) (hb : attributeBase e f X.env (eval e X.env) = eval e X.env := by rfl) : PV X at_ E (.Attribute e f pos) (mAttr c f m) :=
  let ⟨_, p1, v1⟩ := h; ⟨_, pe_fld p1 hb, ev_attr (W := Wx X at_) hf v1⟩
theorem q_val {f0 : List Str} (hf : ErrF (Wx X at_) f0) (h : PV X at_ E e m) (pe : ∀ te, PE X e te → PE X (.Attribute e "value" pos) (tExA X.K te "value")) : PV X at_ E (.Attribute e "value" pos) (mExVal f0 m) :=
  let ⟨_, p1, v1⟩ := h; ⟨_, pe _ p1, ev_exval hf v1⟩
theorem v_fld {i : Nat} {f : Str} {nat : Nat} (hf : ∀ C, X.mg c = some (.ref C) → Cls X.K C ∧ NoAttr X.K C f ∧ at_ C = nat) (ho : PE X o (tVar i)) (h : PV X at_ E e m) (hs : swapsWith e (some (.Attribute o f pos')) pos.line X.env = pure false := by rfl) :
    PVS X at_ E (.Assign [.Attribute o f pos'] e pos) (mFldSet i c f nat m) := let ⟨_, p1, v1⟩ := h; ⟨_, ps_fld ho p1 hs, s_fldset (W := Wx X at_) hf v1⟩
theorem v_raise {fI : Addr} (h : EC X.K X.mg fI x C) (i : IO X.prog X.w X.K X.mg X.base fI) (hr : Room k X.A) (hk : 2 ≤ k) (tk : L2.Takes X (fun cls d _ H => E1 cls d H)) (ha : PV X at_ (fun _ => E1) e m) (hg : Gl X x := by rfl) (hc : X.calm = true := by rfl)
    (hdb : (x == ("__debug__" : Str)) = false := by decide) (he : starEach [e] X.env = (false, eval e X.env) :: starEach [] X.env := by rfl) (hpl : (backTo p2 (starEach [] X.env)).any (·.1) = false := by rfl) :
    PVS X at_ (fun _ => E1) (.Raise (some (.Call (.Name x p) [e] [] p2)) none pos) (mRaise x m) :=
  let ⟨_, p1, v1⟩ := ha; ⟨_, ps_rs h i hr hk tk (pa_cons p1 pa_nil he) hg hc hdb he hpl, s_raise (W := Wx X at_) h.hm h.f v1⟩
theorem q_prop {f : Str} (hm : X.mg c = some (.ref C)) (cl : Cls X.K C) (cp : CalP X.prog X.w X.K X.mg X.base CX k C f (spF (Wx X at_) 0 1 F)) (hr : Room j X.A) (hk : k + 1 ≤ j) (hx : Passes CX X.nox L2.E0) (h : PV X at_ E e m) (hb : attributeBase e f X.env (eval e X.env) = eval e X.env := by rfl) :
    PV X at_ E (.Attribute e f pos) (mProp c F m) := by
  obtain ⟨_, p1, v1⟩ := h
  obtain ⟨pp, g, fd, ps, F0, hp, hb0⟩ := cp.ex
  exact ⟨_, pe_prop p1 cl hp F0 (hr.mono hk) hb0 .nil hx hb, ev_prop (W := Wx X at_) hm v1⟩
theorem q_methO {mn : Str} {pl : Sem Bool} (hm : X.mg c = some (.ref C)) (cl : Cls X.K C) (cm : CalM X.prog X.w X.K X.mg X.base CX k C mn f (spF (Wx X at_) 0 ar F)) (hr : Room j X.A) (hk : k ≤ j) (hx : Passes CX X E1) (h : PV X at_ (fun _ => E1) o m) (ha : PVA X at_ (fun _ => E1) (e :: es) ml) (hl : LenIs n ml) (har : 1 + (n + 0) = ar)
    (hst : starEach (e :: es) X.env = (false, eval e X.env) :: starEach es X.env := by rfl) (hpl : (backTo pos (starEach es X.env)).any (·.1) = false := by rfl)
    (ht : eval (.Call (.Attribute o mn apos) (e :: es) [] pos) X.env = (do
      let ov ← eval o X.env
      standAt apos.atName
      let (f, first) ← holding [ov] (getMethod ov mn pl)
      callWith pos f first (backTo pos (starEach (e :: es) X.env)) (backToKw pos (keywordEach [] X.env))) := by rfl) :
    PV X at_ (fun _ => E1) (.Call (.Attribute o mn apos) (e :: es) [] pos) (mMethO c mn F [] m ml) := by
  obtain ⟨_, p1, v1⟩ := h
  obtain ⟨_, p2, v2⟩ := ha
  obtain ⟨fd, ps, F0, hb0⟩ := cm.ex
  exact ⟨_, pe_meth p1 cl ⟨cm.at_, cm.fn, cm.kp⟩ F0 (hr.mono hk) hb0 .nil hx p2 hst hpl ht, ev_methX (W := Wx X at_) hm hl har (fun _ => .nil) v1 v2⟩
theorem q_make {FI0 : FI} {dvs : List V} {dd : List Dat} (cc : CalC X.prog X.w X.K X.mg X.base CX k x C dvs (spI (Wx X at_) x ar FI0)) (hat : 0 < at_ C) (hr : Room j X.A) (hk : k + 1 ≤ j) (hx : Passes CX X E1) (hd : ∀ H, DDs (Wx X at_) H dvs dd) (ha : PVA X at_ (fun _ => E1) (e :: es) ml) (hl : LenIs n ml) (har : 1 + (n + dd.length) = ar) (hg : Gl X x := by rfl)
    (hdb : (x == ("__debug__" : Str)) = false := by decide) (he : starEach (e :: es) X.env = (false, eval e X.env) :: starEach es X.env := by rfl) (hpl : (backTo pos (starEach es X.env)).any (·.1) = false := by rfl) :
    PV X at_ (fun _ => E1) (.Call (.Name x p) (e :: es) [] pos) (mMake FI0 dd ml) := by
  obtain ⟨_, p2, v2⟩ := ha
  obtain ⟨f, fd, ps, ds, F0, mk, hb0, hv⟩ := cc.ex
  exact ⟨_, pe_make mk F0 (hr.mono hk) hg cc.hm hb0 hv hx p2 hdb he hpl, ev_make (W := Wx X at_) cc.hm hat hl har hd v2⟩
theorem q_make0 {FI0 : FI} {dvs : List V} {dd : List Dat} (cc : CalC X.prog X.w X.K X.mg X.base CX k x C dvs (spI (Wx X at_) x ar FI0)) (hat : 0 < at_ C) (hr : Room j X.A) (hk : k + 1 ≤ j) (hx : Passes CX X E1) (hd : ∀ H, DDs (Wx X at_) H dvs dd) (har : 1 + (0 + dd.length) = ar) (hg : Gl X x := by rfl)
    (hdb : (x == ("__debug__" : Str)) = false := by decide) : PV X at_ (fun _ => E1) (.Call (.Name x p) [] [] pos) (mMake FI0 dd mNil) := by
  obtain ⟨f, fd, ps, ds, F0, mk, hb0, hv⟩ := cc.ex
  exact ⟨_, pe_make0 mk F0 (hr.mono hk) hg cc.hm hb0 hv hx hdb, ev_make (W := Wx X at_) cc.hm hat len_nil har hd ev_nil⟩
theorem q_callO (hm : X.mg c = some (.ref C)) (cm : CalM X.prog X.w X.K X.mg X.base CX k C "__call__" f (spF (Wx X at_) 0 ar F)) (hr : Room j X.A) (hk : k ≤ j) (hx : Passes CX X E1) (h : PV X at_ (fun _ => E1) o m) (ha : PVA X at_ (fun _ => E1) (e :: es) ml) (hl : LenIs n ml) (har : 1 + n = ar)
    (ht : eval (.Call o (e :: es) [] pos) X.env = (do callWith pos (← eval o X.env) [] (backTo pos (starEach (e :: es) X.env)) (backToKw pos (keywordEach [] X.env))) := by rfl)
    (he : starEach (e :: es) X.env = (false, eval e X.env) :: starEach es X.env := by rfl) (hpl : (backTo pos (starEach es X.env)).any (·.1) = false := by rfl) : PV X at_ (fun _ => E1) (.Call o (e :: es) [] pos) (mCallO c F m ml) := by
  obtain ⟨_, p1, v1⟩ := h
  obtain ⟨_, p2, v2⟩ := ha
  exact ⟨_, StX.pe_callO p1 ⟨cm.at_, cm.fn, cm.fi⟩ (cm.r.mono hk) hr hx p2 ht he hpl, ev_callO (X := X) hm hl har v1 v2⟩
/-- own operators -/
theorem q_neg {f1 : Dat → Option Dat} {r1 : V → Hp → VK → Prop} (hm : X.mg c = some (.ref C)) (cm : CalM X.prog X.w X.K X.mg X.base CX k C "__neg__" f (spF (Wx X at_) 0 1 F)) (hr : Room j X.A) (hk : k ≤ j) (hx : Passes CX X L2.E0) (h : PV X at_ E a ma) :
    PV X at_ E (.UnaryOp .USub a pos) (mUn (unOwn c F (fun _ => none)) ma) :=
  q_un (r := fun x H Q => rOwnU C (spF (Wx X at_) 0 1 F) L2.E0 x H Q ∨ False) (fun pins s σ H x v Q I rx h => h.elim (fun h => un_own cm.at_ cm.fn (cm.r.mono hk) hr hx pins s σ H x v Q I rx h) False.elim) (r1_unOwn (W := Wx X at_) hm (r := fun _ _ _ => False) (fun H v x z Q hz => by cases hz)) h
theorem q_opOwn {op : Operator} {nm : String} {fr : Addr} {f0 : Dat → Dat → Option Dat} {r0 : R2} {FR : FM} (hn : op.info.2 = nm) (hm : X.mg c = some (.ref C)) (B : BinF X.K C nm f) (RB : RefF X.K C nm f fr)
    (cm : CalM X.prog X.w X.K X.mg X.base CX k C (PySem.dunder nm) f (spF (Wx X at_) 0 2 F)) (cr : CalM X.prog X.w X.K X.mg X.base CX k C (PySem.dunderR nm) fr (spF (Wx X at_) 0 2 FR)) (hr : Room j X.A) (hk : k ≤ j) (hx : Passes CX X L2.E0) (fills : fillsNumberSlot (.type "int") nm = pure true)
    (left : ∀ {A : Around} {E' : Value → Shared → Prop} {s : Shared} {x : Addr} {ox : Obj} {a : Int} {t : Tok}, s.heap.get? x = some ox → ox.data = .plain → ∀ (Q' : Option Value → Shared → Prop), Q' none s → wpAny (model X.prog X.w) A (tryMethod (.int a t) (PySem.dunder nm) (.ref x)) Q' E' s)
    (o0 : OpR X (binaryOp op) r0) (h0 : R2Ok (Wx X at_) r0 f0) (h1 : PV X at_ E a ma) (h2 : PV X at_ E b mb) : PV X at_ E (.BinOp a op b pos) (mOp (opOwn c F FR f0) ma mb) :=
  q_op (L2.OpR.or (L2.OpR.or (op_ownB (hn ▸ B) (cm.r.mono hk) hr hx) (op_ownR hn RB (cr.r.mono hk) hr hx fills left)) o0) (r2_opOwn (W := Wx X at_) hm h0) h1 h2
theorem q_eqOwn {f0 : Dat → Dat → Option Dat} {r0 : R2} (hm : X.mg c = some (.ref C)) (cm : CalM X.prog X.w X.K X.mg X.base CX k C "__eq__" f (spF (Wx X at_) 0 2 F)) (hr : Room j X.A) (hk : k ≤ j) (hx : Passes CX X L2.E0)
    (o0 : OpR X (compareOp .Eq) r0) (h0 : R2Ok (Wx X at_) r0 f0) (h1 : PV X at_ E a ma) (h2 : PV X at_ E b mb) : PV X at_ E (.Compare a [.Eq] [b] pos) (mOp (cmpOwn c F f0) ma mb) :=
  q_cmp (L2.OpR.or (op_ownC (fun _ _ => rfl) cm.at_ cm.fn (cm.r.mono hk) hr hx) o0) (r2_cmpOwn (W := Wx X at_) hm h0) h1 h2 (nomark _)
theorem q_neOwn {f0 : Dat → Dat → Option Dat} {r0 : R2} (hm : X.mg c = some (.ref C)) (hn : PySem.W.findIn X.K (.ref C) "__ne__" = some (some (.builtin "object.__ne__"))) (hmo : PySem.W.mroIn X.K C (.type "object") = some true) (cm : CalM X.prog X.w X.K X.mg X.base CX k C "__eq__" f (spF (Wx X at_) 0 2 F)) (hr : Room j X.A) (hk : k + 1 ≤ j) (hx : Passes CX X L2.E0)
    (o0 : OpR X (compareOp .NotEq) r0) (h0 : R2Ok (Wx X at_) r0 f0) (h1 : PV X at_ E a ma) (h2 : PV X at_ E b mb) : PV X at_ E (.Compare a [.NotEq] [b] pos) (mOp (neOwn c F f0) ma mb) :=
  q_cmp (L2.OpR.or (op_ownNe hn cm.at_ cm.fn hmo cm.r (hr.mono hk) hx) o0) (r2_neOwn (W := Wx X at_) hm h0) h1 h2 (nomark _)
theorem t_neOwn {f0 : Dat → Dat → Option Dat} {r0 : R2} (hm : X.mg c = some (.ref C)) (hn : PySem.W.findIn X.K (.ref C) "__ne__" = some (some (.builtin "object.__ne__"))) (hmo : PySem.W.mroIn X.K C (.type "object") = some true) (cm : CalM X.prog X.w X.K X.mg X.base CX k C "__eq__" f (spF (Wx X at_) 0 2 F)) (hr : Room j X.A) (hk : k + 1 ≤ j) (hx : Passes CX X L2.E0)
    (o0 : OpR X (compareOp .NotEq) r0) (h0 : R2Ok (Wx X at_) r0 f0) (h1 : PV X at_ E a ma) (h2 : PV X at_ E b mb) : PVT X at_ E (.Compare a [.NotEq] [b] pos) (mTest (mOp (neOwn c F f0) ma mb)) :=
  t_cmp (L2.OpR.or (op_ownNe hn cm.at_ cm.fn hmo cm.r (hr.mono hk) hx) o0) (r2_neOwn (W := Wx X at_) hm h0) h1 h2 (nomark _)
theorem t_eqOwn {f0 : Dat → Dat → Option Dat} {r0 : R2} (hm : X.mg c = some (.ref C)) (cm : CalM X.prog X.w X.K X.mg X.base CX k C "__eq__" f (spF (Wx X at_) 0 2 F)) (hr : Room j X.A) (hk : k ≤ j) (hx : Passes CX X L2.E0)
    (o0 : OpR X (compareOp .Eq) r0) (h0 : R2Ok (Wx X at_) r0 f0) (h1 : PV X at_ E a ma) (h2 : PV X at_ E b mb) : PVT X at_ E (.Compare a [.Eq] [b] pos) (mTest (mOp (cmpOwn c F f0) ma mb)) :=
  t_cmp (L2.OpR.or (op_ownC (fun _ _ => rfl) cm.at_ cm.fn (cm.r.mono hk) hr hx) o0) (r2_cmpOwn (W := Wx X at_) hm h0) h1 h2 (nomark _)
theorem q_inOwn {f0 : Dat → Dat → Option Dat} {r0 : R2} (hm : X.mg c = some (.ref C)) (cm : CalM X.prog X.w X.K X.mg X.base CX k C "__contains__" f (spF (Wx X at_) 0 2 F)) (hr : Room j X.A) (hk : k ≤ j) (hx : Passes CX X L2.E0)
    (o0 : OpR X (compareOp .In) r0) (h0 : R2Ok (Wx X at_) r0 f0) (h1 : PV X at_ E a ma) (h2 : PV X at_ E b mb) (hb : behindInMarks .In b = false) : PV X at_ E (.Compare a [.In] [b] pos) (mOp (inOwn false c F f0) ma mb) :=
  q_cmp (L2.OpR.or (op_ownIn cm.at_ cm.fn (cm.r.mono hk) hr hx) o0) (r2_inOwn (W := Wx X at_) false hm h0) h1 h2 hb
theorem t_inOwn {f0 : Dat → Dat → Option Dat} {r0 : R2} (hm : X.mg c = some (.ref C)) (cm : CalM X.prog X.w X.K X.mg X.base CX k C "__contains__" f (spF (Wx X at_) 0 2 F)) (hr : Room j X.A) (hk : k ≤ j) (hx : Passes CX X L2.E0)
    (o0 : OpR X (compareOp .In) r0) (h0 : R2Ok (Wx X at_) r0 f0) (h1 : PV X at_ E a ma) (h2 : PV X at_ E b mb) (hb : behindInMarks .In b = false) : PVT X at_ E (.Compare a [.In] [b] pos) (mTest (mOp (inOwn false c F f0) ma mb)) :=
  t_cmp (L2.OpR.or (op_ownIn cm.at_ cm.fn (cm.r.mono hk) hr hx) o0) (r2_inOwn (W := Wx X at_) false hm h0) h1 h2 hb
theorem t_ninOwn {f0 : Dat → Dat → Option Dat} {r0 : R2} (hm : X.mg c = some (.ref C)) (cm : CalM X.prog X.w X.K X.mg X.base CX k C "__contains__" f (spF (Wx X at_) 0 2 F)) (hr : Room j X.A) (hk : k ≤ j) (hx : Passes CX X L2.E0)
    (o0 : OpR X (compareOp .NotIn) r0) (h0 : R2Ok (Wx X at_) r0 f0) (h1 : PV X at_ E a ma) (h2 : PV X at_ E b mb) (hb : behindInMarks .NotIn b = false) : PVT X at_ E (.Compare a [.NotIn] [b] pos) (mTest (mOp (inOwn true c F f0) ma mb)) :=
  t_cmp (L2.OpR.or (op_ownNin cm.at_ cm.fn (cm.r.mono hk) hr hx) o0) (r2_inOwn (W := Wx X at_) true hm h0) h1 h2 hb
/-- x[k] by an own __getitem__ -/
theorem pe_ixOwn {ta tb : TE} {sp : Sp} (cm : CalM X.prog X.w X.K X.mg X.base CX k C "__getitem__" f sp) (hr : Room j X.A) (hk : k + 1 ≤ j) (hx : Passes CX X L2.E0) (ha : PE X a ta) (hb : PE X b tb)
    (hsl : ∀ ov iv, subscripted b true ov iv = runValue (.builtin "lifetime.subscript" ⟨[ov, iv], []⟩) := by intro _ _; with_unfolding_all rfl) : PE X (.Subscript a b pos) (tOp (rOwnX C sp L2.E0) ta tb) := by
  refine ⟨fun pins s σ H Q I h => ?_⟩
  refine Subscript_ (binT ha hb I h fun v u s2 x y H2 I2 rx ry q => ?_)
  obtain ⟨hx1, q⟩ := q
  obtain ⟨a', od, dx, rfl, J⟩ := insH_at I2 hx1
  cases (show v = Value.ref a' from rx)
  obtain ⟨m, hF⟩ := I2.fr
  refine PySem.W.sub_K hF I2.ok.mod.kin J cm.at_ cm.fi cm.fn ?_ (hsl _ _)
  exact wpAny_call (SlX.run_at (us := [.ref a', u]) (ws := [.ref a', y]) cm.r (hr.mono hk).in1 I2.env0.in1 hx I2 (.cons rfl (.cons ry .nil)) q)
theorem q_ixOwn (hm : X.mg c = some (.ref C)) (cm : CalM X.prog X.w X.K X.mg X.base CX k C "__getitem__" f (spF (Wx X at_) 0 2 F)) (hr : Room j X.A) (hk : k + 1 ≤ j) (hx : Passes CX X L2.E0) (h1 : PV X at_ E a ma) (h2 : PV X at_ E b mb)
    (hsl : ∀ ov iv, subscripted b true ov iv = runValue (.builtin "lifetime.subscript" ⟨[ov, iv], []⟩) := by intro _ _; with_unfolding_all rfl) : PV X at_ E (.Subscript a b pos) (mOp (ixOwn c F (fun _ _ => none)) ma mb) := by
  obtain ⟨_, p1, v1⟩ := h1
  obtain ⟨_, p2, v2⟩ := h2
  exact ⟨_, pe_ixOwn cm hr hk hx p1 p2 hsl, ev_op (fun H v w x y z Q hz hx hy k => (r2_ixOwn (W := Wx X at_) (r := fun _ _ _ _ => False) (f := fun _ _ => none) hm (fun H v w x y z Q hz => by cases hz) H v w x y z Q hz hx hy k).elim id False.elim) v1 v2⟩
/-- isinstance(x, C) of an own class -/
theorem q_isiC {cn : Str} {cs : List Str} (F : IsoF (Wx X at_) cn C cs) (hm : X.mg "isinstance" = none) (h : PV X at_ E a ma) (hc : PE X b (tC (.ref C))) (hg : Gl X "isinstance" := by rfl)
    (he : starEach [a, b] X.env = (false, eval a X.env) :: starEach [b] X.env := by rfl) (he2 : starEach [b] X.env = (false, eval b X.env) :: starEach [] X.env := by rfl) (hp : (backTo pos (starEach [b] X.env)).any (·.1) = false := by rfl) :
    PV X at_ E (.Call (.Name "isinstance" p) [a, b] [] pos) (mIsi (isoB cn cs) ma) := q_isi (isi_own F) hm h hc hg he he2 hp
end
end DL

set_option Elab.async false
set_option linter.all false
set_option maxRecDepth 100000
set_option maxHeartbeats 4000000
/-! D16: own new things: stored, handed back; sorted texts, sums of lists, texts of values. -/
namespace DL
open PySem PySem.Spec PyProof.Rows L2 GX
abbrev PVN (X : Cx) (at_ : Addr → Nat) (E : SK) (e : Expr) (m : M MO) : Prop := ∃ te, PE X e te ∧ EvN (Wx X at_) E te m
/-- a new thing by two values -/
def RNOp (W : Wd) (r : R2) (f : Dat → Dat → Option MO) : Prop := ∀ (H : Hp) (v w : V) (x y : Dat) (o : MO) (Q : VK), f x y = some o → DD W H v x → DD W H w y → (∀ p H', H p = none → Same H H' → MOk W H' p o → Q (.ref p) H') → r v w H Q
def mOpN (f : Dat → Dat → Option MO) (a b : M Dat) : M MO := bnd a fun x => bnd b fun y => lift (f x y)
def catN : Dat → Dat → Option MO
  | .lst xs, .lst ys => if xs.length + ys.length ≤ sizeLine then some (.lst (xs ++ ys)) else none
  | _, _ => none
section
variable {W : Wd} {E : SK} {ps : List Addr} {pn : List (Pn W)} {ad : Nat → Addr} {g g' : Frm} {σ : L2.St} {H0 H H1 H' : Hp}
theorem en_op {rr : R2} {f : Dat → Dat → Option MO} {ta tb : TE} {ma mb : M Dat} (hr : RNOp W rr f) (ha : EvE W E ta ma) (hb : EvE W E tb mb) : EvN W E (tOp rr ta tb) (mOpN f ma mb) := fun ps pn ad g σ H0 H r Q hm e x k =>
  ha.go hm e x fun d1 g1 v1 H1 f1 e1 k1 r1 x1 => hb.go f1 e1 x1 fun d2 g2 v2 H2 f2 e2 k2 r2 x2 => by
    obtain ⟨o, ho, rfl⟩ := lift_some f2
    exact hr H2 v1 v2 d1 d2 o Q ho (r1.mo (e1.mo k2)) r2 fun p H' hp s mo => k _ _ rfl p H' (e2.same s) ((k1.trans k2).trans (Kp.same s)) ((k1.trans k2).none hp) (e2.fresh hp) (e2.ownNe hp) mo
theorem rn_cat : RNOp W (rAddZ W.K) catN := fun H v w x y o Q h hx hy k => by
  cases x <;> cases y <;> try cases h
  obtain ⟨a, ob, xs, rfl, ha, da⟩ := dd_lst hx
  obtain ⟨b, ob', ys, rfl, hb, db⟩ := dd_lst hy
  simp only [catN] at h
  split at h
  · rename_i hl
    cases h
    exact .inr (.inr (.inl ⟨a, b, xs, ys, rfl, rfl, .inr ⟨ob, ha⟩, .inr ⟨ob', hb⟩, by rw [da.len, db.len]; exact hl, fun p hp => k p _ hp (Same.new hp) ⟨_, upd_same, (da.app db).mo (MoD.same (Same.new hp))⟩⟩))
  · cases h
/-- x = new, y = new -/
def mPar2N (i j : Nat) (a b : M MO) : M Fl := bnd a fun o1 => bnd b fun o2 => bnd (setM i o1) fun _ => bnd (setM j o2) fun _ => ret .nx
theorem s_par2N {i j : Nat} (hij : i ≠ j) {ta tb : TE} {ma mb : M MO} (ha : EvN W E ta ma) (hb : EvN W E tb mb) : EvS W E (tPar i j (tCons ta (tCons tb tNil))) (mPar2N i j ma mb) := fun ps pn ad g σ H0 H r D hm e x k => by
  rcases bnd_some hm with ⟨o1, g1, h1, h2⟩ | ⟨c, w, g1, h1, h2⟩
  · refine ha ps pn ad g σ H0 H _ _ h1 e (fun c w g'' z => by cases z) fun o g'' z p H1 e1 k1 hp hp0 hpn mo1 => ?_
    cases z
    rcases bnd_some h2 with ⟨o2, g2, h3, h4⟩ | ⟨c, w, g2, h3, h4⟩
    · refine hb ps pn ad g1 σ H0 H1 _ _ h3 e1 (fun c w g'' z => by cases z) fun o g'' z q H2 e2 k2 hq hq0 hqn mo2 => ?_
      cases z
      obtain ⟨u1, u2⟩ := bnd_setM h4
      obtain ⟨u3, u4⟩ := bnd_setM u2
      cases u4
      have hp1 : ∃ u, H1 p = some u := by
        cases o1 with
        | lst ds => obtain ⟨xs, h, _⟩ := mo1; exact ⟨_, h⟩
        | dic ds => obtain ⟨xs, h, _⟩ := mo1; exact ⟨_, h⟩
        | ins c gs => obtain ⟨C, dx, fs, _, h, _⟩ := mo1; exact ⟨_, h⟩
      have npq : p ≠ q := fun z => by
        obtain ⟨u, hu⟩ := hp1
        rw [z, hq] at hu
        cases hu
      have hpn2 : ∀ i, Own g2 i → ad i ≠ p := fun i hi => hpn i (k2.own i hi)
      have mo1' : MOk W H2 p o1 := mo1.keep (e1.mo k2) fun u hu => k2.keep p u (fun i hi z => hpn i hi z.symm) hu
      have e3 := e2.setM u1 hp0 hpn2 mo1'
      have e4 := e3.setM (p := q) u3 hq0 (fun l hl => by
        show (if l = i then p else ad l) ≠ q
        by_cases z : l = i
        · rw [if_pos z]; exact npq
        · rw [if_neg z]
          refine hqn l ?_
          obtain ⟨b, o, hlo⟩ := hl
          refine ⟨b, o, ?_⟩
          rw [List.getElem?_set_ne (fun y => z y.symm)] at hlo
          exact hlo) mo2
      exact ⟨_, _, rfl, k .nx _ rfl _ _ H2 e4⟩
    · subst h4
      exact hb ps pn ad g1 σ H0 H1 _ _ h3 e1 (fun c' w' g'' z C dx H' hm' e' k' v => by cases z; exact x _ _ _ rfl C dx ad σ H' hm' e' v) fun o g'' z => by cases z
  · subst h2
    exact ha ps pn ad g σ H0 H _ _ h1 e (fun c' w' g'' z C dx H' hm' e' k' v => by cases z; exact x _ _ _ rfl C dx ad σ H' hm' e' v) fun o g'' z => by cases z
/-! ### a def that hands back a new thing -/
def EvSN (W : Wd) (E : SK) (ts : TS) (m : M MO) : Prop :=
  ∀ (ps : List Addr) (pn : List (Pn W)) (ad : Nat → Addr) (g : Frm) (σ : L2.St) (H0 H : Hp) (r : R MO) (D : Ends), m g = some r → EnvD W ps pn ad g σ H0 H → XS W E ps pn H0 r →
    (∀ o g', r = .ok o g' → ∀ ad' σ' p H', EnvD W ps pn ad' g' σ' H0 H' → H0 p = none → MOk W H' p o → D.rt (.ref p) H') → ts D σ H
def mSeqN (a : M Fl) (b : M MO) : M MO := bnd a fun f => match f with
  | .nx => b
  | _ => fun _ => none
theorem sn_ret {te : TE} {m : M MO} (h : EvN W E te m) : EvSN W E (tRet te) m := fun ps pn ad g σ H0 H r D hm e x k =>
  h ps pn ad g σ H0 H r _ hm e (fun c w g'' z C dx H' hm' e' k' v => x c w g'' z C dx ad σ H' hm' e' v) fun o g'' z p H' e' k' hp h0 hn mo => k o g'' z ad σ p H' e' h0 mo
theorem sn_seq {t u : TS} {a : M Fl} {b : M MO} (ha : EvS W E t a) (hb : EvSN W E u b) : EvSN W E (tSeq t u) (mSeqN a b) := fun ps pn ad g σ H0 H r D hm e x k => by
  rcases bnd_some hm with ⟨f, g1, h1, h2⟩ | ⟨c, w, g1, h1, h2⟩
  · refine ha ps pn ad g σ H0 H _ _ h1 e (fun c w g'' z => by cases z) fun f' g'' z ad' σ' H' e' => ?_
    cases z
    cases f with
    | nx => exact hb ps pn ad' g1 σ' H0 H' r D h2 e' x k
    | rt d => cases h2
    | bk => cases h2
    | ct => cases h2
  · subst h2
    exact ha ps pn ad g σ H0 H _ _ h1 e (fun c' w' g'' z C dx ad' σ' H' hm' e' v => by cases z; exact x _ _ _ rfl C dx ad' σ' H' hm' e' v) fun f g'' z => by cases z
abbrev FN := List Dat → Option MO
def runN (n : Nat) (m : M MO) : FN := fun ds => if ds.length ≤ n then match m (ds.map Sl.d ++ List.replicate (n - ds.length) .no) with
    | some (.ok o _) => some o
    | _ => none
  else none
def spN (W : Wd) (ar : Nat) (F : FN) : Sp := fun vs H Q E => ∃ ds o, ds.length = ar ∧ DDs W H vs ds ∧ F ds = some o ∧ ∀ p H', H p = none → Same H H' → MOk W H' p o → Q (.ref p) H'
theorem spN_len {ar : Nat} {F : FN} {vs : List V} {Q : VK} {E : XK} (h : spN W ar F vs H Q E) : vs.length = ar := by
  obtain ⟨ds, o, h1, h2, _⟩ := h
  rw [h2.len, h1]
theorem bodyN_run {E1 : XK} {N : List Str} {ar : Nat} {ts : TS} {m : M MO} {vs : List V} {Q : VK} (hb : EvSN W (fun _ => E1) ts m) (h : spN W ar (runN N.length m) vs H Q E1) : ts { nx := fun _ H' => Q .non H', rt := Q } (L2.start N vs) H := by
  obtain ⟨ds, o, har, hd, hr, hq⟩ := h
  unfold runN at hr
  split at hr
  · rename_i hl
    have e := EnvD.start (W := W) (ps := []) (N := N) (us := vs) (ds := ds) (os := []) (H := H) (by rw [List.length_nil, Nat.zero_add]; exact hl) List.nodup_nil mos_nil hd
    rw [List.length_nil, Nat.zero_add] at e
    split at hr
    · rename_i o' g' hm
      cases hr
      exact hb [] [] _ _ _ H H _ _ hm e (fun c w g'' z => by cases z) fun o'' g'' z ad' σ' p H' e' h0 mo => by
        cases z
        exact hq p H' h0 (fun a u q => e'.ext a u List.not_mem_nil q) mo
    · cases hr
  · cases hr
def mCallN (F : FN) (m : M (List Dat)) : M MO := bnd m fun ds => lift (F ds)
theorem en_call {ar n : Nat} {F : FN} {E1 : XK} {ta : TA} {m : M (List Dat)} (hl : LenIs n m) (har : n = ar) (h : EvA W E ta m) : EvN W E (tCall (spN W ar F) [] E1 ta) (mCallN F m) := fun ps pn ad g σ H0 H r Q hm e x k =>
  Ev.goM (t := ta) h hm e x fun ds g1 us H1 m1 f1 e1 k1 d1 x1 => by
    obtain ⟨o, ho, rfl⟩ := lift_some f1
    exact ⟨ds, o, by rw [hl ds _ _ m1, har], by rw [List.append_nil]; exact d1, ho, fun p H' hp s mo => k _ _ rfl p H' (e1.same s) (k1.trans (Kp.same s)) (k1.none hp) (e1.fresh hp) (e1.ownNe hp) mo⟩
end
abbrev PVBN (X : Cx) (at_ : Addr → Nat) (E : SK) (st : List Stmt) (m : M MO) : Prop := ∃ ts, PSs X st ts ∧ EvSN (Wx X at_) E ts m
section
variable {X : Cx} {at_ : Addr → Nat} {E : SK} {E1 : XK} {CX : CXT} {j k n ar : Nat} {x : Str} {p pos pos' : Pos} {a b e : Expr} {es : List Expr} {st : Stmt} {rest : List Stmt} {ma mb m : M Dat} {mo mo2 : M MO} {mf : M Fl} {ml : M (List Dat)}
theorem bn_ret (h : PVN X at_ E e mo) : PVBN X at_ E [.Return (some e) pos] mo := let ⟨_, p1, v1⟩ := h; ⟨_, pss_one (ps_ret p1), sn_ret v1⟩
theorem bn_cons (h1 : PVS X at_ E st mf) (h2 : PVBN X at_ E rest mo) : PVBN X at_ E (st :: rest) (mSeqN mf mo) := let ⟨_, p1, v1⟩ := h1; let ⟨_, p2, v2⟩ := h2; ⟨_, pss_cons p1 p2, sn_seq v1 v2⟩
theorem n_lst (h : PVA X at_ E es ml) : PVN X at_ E (.List es pos) (mLstN ml) := let ⟨_, p1, v1⟩ := h; ⟨_, pe_lst p1, en_lst v1⟩
theorem n_dic0 : PVN X at_ E (.Dict [] [] pos) mDic0 := ⟨_, pe_dnewK, en_dic0⟩
theorem n_cat (h1 : PV X at_ E a ma) (h2 : PV X at_ E b mb) : PVN X at_ E (.BinOp a .Add b pos) (mOpN catN ma mb) := let ⟨_, p1, v1⟩ := h1; let ⟨_, p2, v2⟩ := h2; ⟨_, pe_op op_addZ p1 p2, en_op rn_cat v1 v2⟩
theorem n_callTy {T : String} {r : List V → Hp → VK → Prop} {f : List Dat → Option MO} (hc : CallR X (.type T) r) (hf : RNOk (Wx X at_) r f) (hm : X.mg x = none) (hv : bootBuiltins x = some (.type T)) (h : PVA X at_ E (e :: es) ml) (hg : Gl X x := by rfl)
    (hn : x ≠ ("__name__" : Str) := by decide) (hd : (x == ("__debug__" : Str)) = false := by decide) (he : starEach (e :: es) X.env = (false, eval e X.env) :: starEach es X.env := by rfl) (hp : (backTo pos (starEach es X.env)).any (·.1) = false := by rfl) :
    PVN X at_ E (.Call (.Name x p) (e :: es) [] pos) (mFnN f ml) := let ⟨_, p1, v1⟩ := h; ⟨_, pe_callTy hc hg hm hv p1 hn hd he hp, en_cb hf v1⟩
theorem n_callG (c : CalG X.prog X.w X.K X.mg X.base CX k x (spN (Wx X at_) ar F)) (hr : RmG j X.A) (hk : k ≤ j) (hx : Passes CX X E1) (h : PVA X at_ E (e :: es) ml) (hl : LenIs n ml) (har : n = ar) (hg : Gl X x := by rfl)
    (hdb : (x == ("__debug__" : Str)) = false := by decide) (he : starEach (e :: es) X.env = (false, eval e X.env) :: starEach es X.env := by rfl) (hpl : (backTo pos (starEach es X.env)).any (·.1) = false := by rfl) : PVN X at_ E (.Call (.Name x p) (e :: es) [] pos) (mCallN F ml) :=
  let ⟨_, p1, v1⟩ := h; ⟨_, pe_cG (E := E1) c hr hk hx p1 hg hdb he hpl, en_call hl har v1⟩
theorem v_own {i : Nat} {y : Str} (hN : X.N.Nodup) (hi : X.N[i]? = some y) (hx : Loc X.env.scope y) (h : PVN X at_ E e mo) (hs : swapsWith e (some (.Name y pos')) pos.line X.env = pure false := by rfl) (hf : X.fn y = true ∨ X.env.scope.names.lookup y = some .local := by first | exact .inl rfl | exact .inr rfl | assumption) :
    PVS X at_ E (.Assign [.Name y pos'] e pos) (mOwn i mo) := let ⟨_, p1, v1⟩ := h; ⟨_, ps_set hN hi hx p1 hs hf, s_own v1⟩
end
/-! ### a law's def that hands back a new thing -/
section
variable {P : Program} {w : World} {K : PySem.W.Frag} {mg : Str → Option Value} {base : Heap} {at_ : Addr → Nat} {x qual : Str} {params : Arguments} {body : List Stmt} {scope : Scope} {dvs : List V} {kws : List (Str × V)} {f : Addr} {fd : FuncData} {N ps : List Str} {k : Nat} {m : M MO}
theorem fnGn (F : FunD K x qual params body scope dvs kws f fd) (S : FnScope N ps scope)
    (hbody : ∀ (cdv : Value) (A : Around) (outer : List Env) (s : Shared) (H : Hp) (E : XK), RmG k (A.deeper (envOfC qual scope s.heap.objs.size f cdv)) → PVBN (cxOf CX0 P w K mg base N qual scope f cdv A outer s H E).nox at_ (fun _ => E) body m) :
    FnG P w K mg base CX0 (k + 1) f fd ps (spN ⟨K, mg, at_⟩ ps.length (runN N.length m)) :=
  fnG0 F S (fun vs H Q E h => spN_len h) fun cdv A outer s H vs Q E hr h => let ⟨t, h1, h2⟩ := hbody cdv A outer s H E hr; ⟨t, h1, bodyN_run h2 h⟩
end
end DL

set_option Elab.async false
set_option linter.all false
set_option maxRecDepth 100000
set_option maxHeartbeats 4000000
/-! D17: sorted texts and integers; str(x); comprehensions that are stored; two at once. -/
namespace DL
open PySem PySem.Spec PyProof.Rows L2 GX
/-! ### the order of texts -/
def leL : List Nat → List Nat → Bool
  | [], _ => true
  | _ :: _, [] => false
  | a :: r, b :: t => a < b || (a == b && leL r t)
def leS (a b : Str) : Bool := leL a.cps.toList b.cps.toList
theorem leL_not : ∀ (a b : List Nat), leL a b = !ltCps b a
  | [], [] => rfl
  | [], _ :: _ => rfl
  | _ :: _, [] => rfl
  | a :: r, b :: t => by
    simp only [leL, ltCps, leL_not r t]
    rcases Nat.lt_trichotomy a b with h | h | h
    · have h1 : ¬ b < a := by omega
      have h2 : b ≠ a := by omega
      simp [h, h1, h2]
    · subst h
      simp
    · have h1 : ¬ a < b := by omega
      have h2 : a ≠ b := by omega
      simp [h, h1, h2]
theorem leL_total : ∀ (a b : List Nat), (leL a b || leL b a) = true
  | [], _ => rfl
  | _ :: _, [] => rfl
  | a :: r, b :: t => by
    simp only [leL]
    rcases Nat.lt_trichotomy a b with h | h | h
    · simp [h]
    · subst h
      have := leL_total r t
      simpa using this
    · simp [h]
theorem leL_trans : ∀ (a b c : List Nat), leL a b = true → leL b c = true → leL a c = true
  | [], _, _, _, _ => rfl
  | _ :: _, [], _, h, _ => by cases h
  | _ :: _, _ :: _, [], _, h => by cases h
  | a :: r, b :: t, c :: u, h1, h2 => by
    simp only [leL, Bool.or_eq_true, Bool.and_eq_true, decide_eq_true_eq, beq_iff_eq] at h1 h2 ⊢
    rcases h1 with h1 | ⟨h1, h3⟩
    · rcases h2 with h2 | ⟨h2, _⟩
      · exact .inl (by omega)
      · exact .inl (by omega)
    · rcases h2 with h2 | ⟨h2, h4⟩
      · exact .inl (by omega)
      · exact .inr ⟨by omega, leL_trans r t u h3 h4⟩
theorem leL_anti : ∀ (a b : List Nat), leL a b = true → leL b a = true → a = b
  | [], [], _, _ => rfl
  | [], _ :: _, _, h => by cases h
  | _ :: _, [], h, _ => by cases h
  | a :: r, b :: t, h1, h2 => by
    simp only [leL, Bool.or_eq_true, Bool.and_eq_true, decide_eq_true_eq, beq_iff_eq] at h1 h2
    rcases h1 with h1 | ⟨h1, h3⟩
    · rcases h2 with h2 | ⟨h2, _⟩ <;> omega
    · rcases h2 with h2 | ⟨h2, h4⟩
      · omega
      · rw [h1, leL_anti r t h3 h4]
theorem leS_trans (a b c : Str) (h1 : leS a b = true) (h2 : leS b c = true) : leS a c = true := leL_trans _ _ _ h1 h2
theorem leS_total (a b : Str) : (leS a b || leS b a) = true := leL_total _ _
theorem leS_anti {a b : Str} (h1 : leS a b = true) (h2 : leS b a = true) : a = b := by
  have h := leL_anti _ _ h1 h2
  cases a with
  | mk x => cases b with
    | mk y => exact congrArg Str.mk (Array.toList_inj.mp h)
/-- the texts, in their order -/
def sortT (xs : List Str) : List Str := xs.mergeSort leS
theorem rising_pw : ∀ (xs : List Str) (p : Str), risingS p xs = true → (∀ x ∈ xs, leS p x = true) ∧ xs.Pairwise (fun a b => leS a b = true)
  | [], p, _ => ⟨fun x h => absurd h List.not_mem_nil, .nil⟩
  | x :: r, p, h => by
    simp only [risingS, Bool.and_eq_true] at h
    have hp : leS p x = true := by unfold leS; rw [leL_not]; exact h.1
    obtain ⟨h1, h2⟩ := rising_pw r x h.2
    exact ⟨fun y hy => (List.mem_cons.mp hy).elim (fun e => e ▸ hp) fun hy => leS_trans _ _ _ hp (h1 y hy), .cons h1 h2⟩
theorem sorted_eq {xs ys : List Str} (hp : ys.Perm xs) (hs : sortedS ys = true) : ys = sortT xs := by
  have h1 : ys.Pairwise (fun a b => leS a b = true) := by
    cases ys with
    | nil => exact .nil
    | cons y r =>
      obtain ⟨h1, h2⟩ := rising_pw r y hs
      exact .cons h1 h2
  exact List.Perm.eq_of_pairwise (le := fun a b => leS a b = true) (fun a b _ _ h1 h2 => leS_anti h1 h2) h1 (List.pairwise_mergeSort leS_trans leS_total xs) (hp.trans (List.mergeSort_perm xs leS).symm)
/-! ### sorted -/
def strO : Dat → Option Str
  | .str x => some x
  | _ => none
def sortSF : List Dat → Option Dat
  | [.lst ds] => match strsO ds with
    | some xs => if xs.length < 64 then some (.lst ((sortT xs).map Dat.str)) else none
    | none => none
  | _ => none
section
variable {W : Wd} {H : Hp}
theorem r_sortS : RLOkF W (rSortedS W.K) sortSF := fun H vs ds z Q h hd k => by
  unfold sortSF at h
  split at h
  · rename_i ds'
    split at h
    · rename_i xs hx
      split at h
      · rename_i hl
        cases h
        obtain ⟨v, rfl, dv⟩ := dds1 hd
        obtain ⟨a, o, us, rfl, ha, da⟩ := dd_lst dv
        have e := strs_eq hx da
        subst e
        exact ⟨a, xs, rfl, .inl (.inr ⟨o, ha⟩), hl, fun ys p hp hs hn => by
          rw [sorted_eq hp hs]
          exact dd_mkL hn (dds_strs _) k⟩
      · cases h
    · cases h
  · cases h
end
/-! ### comprehensions that are stored -/
section
variable {X : Cx} {at_ : Addr → Nat} {E : SK} {tg iter elt ke ve a b : Expr} {pos spos py pt pt2 px : Pos} {mi : M (List Dat)} {mt : Dat → M Unit} {mA : M Bool} {me mk mv : M Dat} {mo mo2 : M MO} {ml : M (List Dat)}
theorem v_setLc {i : Nat} {y : Str} {ifs : List Expr} {scope : Scope} {own : List (Str × Nat)} {t : TG} (hc : X.calm = true) (hN : X.N.Nodup) (hy : X.N[i]? = some y) (hyl : X.env.scope.names.lookup y = some .local)
    (hsw : swapsWith (.ListComp elt [⟨tg, iter, ifs, 0⟩] scope pos) (some (.Name y py)) spos.line X.env = pure true) (hi : PVI X at_ E tg iter mi) (ok : BlkOk X.N X.env.scope scope own)
    (hg : ∀ (s : Shared) (H : Hp) (C : Addr) (cl : List (Str × Addr)) (fp : List Addr), PG (X.blk s H scope (compEnvC scope cl C X.env) fp) tg t) (hv : EvGw (Wx X at_) (own.map (·.2)) t mt)
    (ht : ∀ (s : Shared) (H : Hp) (C : Addr) (cl : List (Str × Addr)) (fp : List Addr), PVTs (X.blk s H scope (compEnvC scope cl C X.env) fp) at_ E0' ifs mA)
    (he : ∀ (s : Shared) (H : Hp) (C : Addr) (cl : List (Str × Addr)) (fp : List Addr), PV (X.blk s H scope (compEnvC scope cl C X.env) fp) at_ E0' elt me) (hs : ∀ x, foldedSetIterable iter X.env x = pure x := by intro _; rfl) :
    PVS X at_ E (.Assign [.Name y py] (.ListComp elt [⟨tg, iter, ifs, 0⟩] scope pos) spos) (mOwn i (mLcN (own.map (·.2)) mi mt mA me)) :=
  let ⟨_, p1, v1⟩ := hi
  ⟨_, ps_setLc hc hN hy hyl hsw p1 ok hg (fun s H C cl fp => let ⟨_, p, v⟩ := ht s H C cl fp; pts_can p v) (fun s H C cl fp => (he s H C cl fp).can) hs, s_own (en_lc v1 hv ev_ce ev_ce)⟩
theorem v_setDc {i : Nat} {y : Str} {ifs : List Expr} {scope : Scope} {own : List (Str × Nat)} {t : TG} (hc : X.calm = true) (hN : X.N.Nodup) (hy : X.N[i]? = some y) (hyl : X.env.scope.names.lookup y = some .local)
    (hsw : swapsWith (.DictComp ke ve [⟨tg, iter, ifs, 0⟩] scope pos) (some (.Name y py)) spos.line X.env = pure true) (hi : PVI X at_ E tg iter mi) (ok : BlkOk X.N X.env.scope scope own)
    (hg : ∀ (s : Shared) (H : Hp) (C : Addr) (cl : List (Str × Addr)) (fp : List Addr), PG (X.blk s H scope (compEnvC scope cl C X.env) fp) tg t) (hv : EvGw (Wx X at_) (own.map (·.2)) t mt)
    (ht : ∀ (s : Shared) (H : Hp) (C : Addr) (cl : List (Str × Addr)) (fp : List Addr), PVTs (X.blk s H scope (compEnvC scope cl C X.env) fp) at_ E0' ifs mA)
    (hk : ∀ (s : Shared) (H : Hp) (C : Addr) (cl : List (Str × Addr)) (fp : List Addr), PV (X.blk s H scope (compEnvC scope cl C X.env) fp) at_ E0' ke mk)
    (hw : ∀ (s : Shared) (H : Hp) (C : Addr) (cl : List (Str × Addr)) (fp : List Addr), PV (X.blk s H scope (compEnvC scope cl C X.env) fp) at_ E0' ve mv) (hs : ∀ x, foldedSetIterable iter X.env x = pure x := by intro _; rfl) :
    PVS X at_ E (.Assign [.Name y py] (.DictComp ke ve [⟨tg, iter, ifs, 0⟩] scope pos) spos) (mOwn i (mDcN (own.map (·.2)) mi mt mA mk mv)) :=
  let ⟨_, p1, v1⟩ := hi
  ⟨_, ps_setDc hc hN hy hyl hsw p1 ok hg (fun s H C cl fp => let ⟨_, p, v⟩ := ht s H C cl fp; pts_can p v) (fun s H C cl fp => (hk s H C cl fp).can) (fun s H C cl fp => (hw s H C cl fp).can) hs, s_own (en_dc v1 hv ev_ce ev_ce ev_ce)⟩
theorem v_par {i j : Nat} {x y : Str} {kt k2 : Nat} (hc : X.calm = true) (hN : X.N.Nodup) (hi : X.N[i]? = some x) (hj : X.N[j]? = some y) (hij : i ≠ j)
    (hx : X.env.scope.names.lookup x = some .local) (hy : X.env.scope.names.lookup y = some .local) (h : PVA X at_ E [a, b] ml)
    (hw : swappedStores [.Tuple [.Name x px, .Name y py] kt pt] (.Tuple [a, b] k2 pt2) X.env = pure (some [x, y])) :
    PVS X at_ E (.Assign [.Tuple [.Name x px, .Name y py] kt pt] (.Tuple [a, b] k2 pt2) pos) (mPar i j ml) := let ⟨_, p1, v1⟩ := h; ⟨_, ps_par hc hN hi hj hij hx hy p1 hw, s_par v1⟩
theorem v_par2N {i j : Nat} {x y : Str} {kt k2 : Nat} (hc : X.calm = true) (hN : X.N.Nodup) (hi : X.N[i]? = some x) (hj : X.N[j]? = some y) (hij : i ≠ j)
    (hx : X.env.scope.names.lookup x = some .local) (hy : X.env.scope.names.lookup y = some .local) (h1 : PVN X at_ E a mo) (h2 : PVN X at_ E b mo2)
    (hw : swappedStores [.Tuple [.Name x px, .Name y py] kt pt] (.Tuple [a, b] k2 pt2) X.env = pure (some [x, y])) (s1 : starEach [a, b] X.env = (false, eval a X.env) :: starEach [b] X.env := by rfl) (s2 : starEach [b] X.env = (false, eval b X.env) :: starEach [] X.env := by rfl) :
    PVS X at_ E (.Assign [.Tuple [.Name x px, .Name y py] kt pt] (.Tuple [a, b] k2 pt2) pos) (mPar2N i j mo mo2) := let ⟨_, p1, v1⟩ := h1; let ⟨_, p2, v2⟩ := h2; ⟨_, ps_par hc hN hi hj hij hx hy (pa_cons p1 (pa_cons p2 pa_nil s2) s1) hw, s_par2N hij v1 v2⟩
theorem q_fz {e : Expr} {i : Nat} (h : PE X e (tVar i)) : PV X at_ E e (mFz i) := ⟨_, pe_fzm h, ev_fz⟩
end
end DL

set_option Elab.async false
set_option linter.all false
set_option maxRecDepth 100000
set_option maxHeartbeats 4000000
/-! D18: dict(x) of a tuple or a list of pairs. -/
namespace DL
open PySem PySem.Spec PyProof.Rows L2 GX
section
variable {X : Cx}
theorem pairsV {pins : List (Addr × Obj)} {σ : L2.St} {H : Hp} {s : Shared} (I : L2.Inv X pins σ H s) : ∀ {ps : List Addr} {kvs : List (Key × V)}, Paired (fun p kv => SqT X.K H p [kV kv.1, kv.2]) ps kvs →
    ∃ (prs : List (Key × Value)) (pv : List (Value × Value)), KV kvs prs ∧ prs.length = ps.length ∧ pv.length = ps.length ∧
      ∀ (j : Nat) (b : Addr), ps[j]? = some b → ∃ u y k, pv[j]? = some (u, y) ∧ prs[j]? = some (k, y) ∧ IsTup s.heap b #[u, y] ∧ (mixKind X.prog X.w).is k u = true
  | _, _, .nil => ⟨[], [], .nil, rfl, rfl, fun j b e => by simp at e⟩
  | _, _, .cons (a := p) (b := kv) h t => by
    obtain ⟨prs, pv, r, l1, l2, hp⟩ := pairsV I t
    obtain ⟨its, rv, ht, _⟩ := I.tuple h
    obtain ⟨u, y, rfl, ru, ry⟩ := vals2 rv
    refine ⟨(kv.1, y) :: prs, (u, y) :: pv, .cons ⟨rfl, ry⟩ r, congrArg Nat.succ l1, congrArg Nat.succ l2, fun j b e => ?_⟩
    cases j with
    | zero => cases e; exact ⟨u, y, kv.1, rfl, rfl, ht, kV_is ru⟩
    | succ j => exact hp j b e
/-- a tuple of pairs -/
def rDictT (K : PySem.W.Frag) : List V → Hp → VK → Prop := fun xs H Q => ∃ (a : Addr) (ps : List Addr) (kvs : List (Key × V)), xs = [.ref a] ∧ SqT K H a (ps.map V.ref) ∧ SqS K H a ∧ Paired (fun p kv => SqT K H p [kV kv.1, kv.2]) ps kvs ∧
    ∀ p, H p = none → Q (.ref p) (upd H p (.dK (mergeK [] kvs)))
theorem call_dictT (hcalm : X.calm = true) : CallR X (.type "dict") (rDictT X.K) := by
  intro pins s σ H xs us Q I r ⟨a, ps, kvs, hx, hq, hS, hp, q⟩
  subst hx
  obtain ⟨u, rfl, rx⟩ := vals1 r
  cases rx
  obtain ⟨its, rv, ht, hz⟩ := I.tuple hq
  obtain rfl := refs_at rv
  obtain ⟨prs, pv, rel, l1, l2, hpr⟩ := pairsV I hp
  obtain ⟨o, ho, hc, n, hd⟩ := id ht
  have hdn : o.dict = none := by
    rcases hS with ⟨o', ys, h1, h2⟩ | ⟨o', h1, h2⟩
    · have := (show ObjOk X.prog X.w H s.heap a (.frz o' (.tup ys)) from I.hok a _ h1).1
      rw [ho] at this
      cases this
      exact h2
    · have := I.kIn _ _ h1
      rw [ho] at this
      cases this
      exact h2
  rw [List.length_map] at hz
  have atJ : ∀ j k v, pv[j]? = some (k, v) → ∃ b, ps[j]? = some b ∧ IsTup s.heap b #[k, v] ∧ ∃ q, prs[j]? = some (q, v) ∧ (mixKind X.prog X.w).is q k = true := fun j k v e => by
    have hj : j < ps.length := by rw [← l2]; exact (List.getElem?_eq_some_iff.mp e).1
    obtain ⟨u, y, q, e1, e2, e3, e4⟩ := hpr j ps[j] (List.getElem?_eq_getElem hj)
    rw [e] at e1
    cases e1
    exact ⟨ps[j], List.getElem?_eq_getElem hj, e3, q, e2, e4⟩
  have items : PairItems s.heap (ps.map Value.ref).toArray (fun j => ps.getD j 0) pv := ⟨by rw [List.size_toArray, List.length_map, l2], fun j k v e => by
    obtain ⟨b, hb, h1, _⟩ := atJ j k v e
    have hg : ps.getD j 0 = b := by rw [List.getD_eq_getElem?_getD, hb]; rfl
    show (ps.map Value.ref).toArray[j]? = some (.ref (ps.getD j 0)) ∧ PairAt s.heap (ps.getD j 0) k v
    rw [hg]
    exact ⟨by rw [List.getElem?_toArray, List.getElem?_map, hb]; rfl, .inl h1⟩⟩
  refine PySem.call_dict_pairs (knd := mixKind X.prog X.w) (kvs := prs) (PairArg.tuple a _ _ pv) (I.ok.hd hcalm) ⟨⟨o, n, ho, hc, hdn, hd⟩, items⟩ ⟨by rw [l1, l2], fun i key v hrel => ?_⟩ (by rw [l2]; exact hz) fun h' tk hd' k => ?_
  · obtain ⟨b, _, _, q, h1, h2⟩ := atJ i key v hrel
    exact ⟨q, h1, h2⟩
  · have hm : (s.heap.objs.size == sysModules) = false := beq_eq_false_iff_ne.mpr (Nat.ne_of_gt I.big)
    have hlen : (mergeK [] kvs).length ≤ sizeLine := Nat.le_trans (length_mergeK kvs []) (by rw [List.length_nil, Nat.zero_add, rel.length, l1]; exact hz)
    exact ⟨.ref s.heap.objs.size, _, I.laid (t' := tk) (o := .dK (mergeK [] kvs)) (fun b o e => k b o List.not_mem_nil e) (Nat.le_refl _) ⟨hlen, hm, merged [] prs, KV.merge rel .nil, hd'⟩, rfl, q _ (I.hok.fresh (Nat.le_refl _))⟩
end
/-! ### by mirrors -/
def pairO : Dat → Option (Key × Dat)
  | .tup _ [k, d] => (keyO k).map fun q => (q, d)
  | _ => none
def pairsO : List Dat → Option (List (Key × Dat))
  | [] => some []
  | d :: r => match pairO d, pairsO r with
    | some p, some l => some (p :: l)
    | _, _ => none
def mergeD (kvs more : List (Key × Dat)) : List (Key × Dat) := more.foldl (fun acc kv => putDk acc kv.1 kv.2) kvs
/-- dict(xs) -/
def dictO : List Dat → Option (List (Key × Dat))
  | [.tup true xs] | [.lst xs] => (pairsO xs).map (mergeD [])
  | _ => none
def rDictZ (K : PySem.W.Frag) : List V → Hp → VK → Prop := fun xs H Q => rDictT K xs H Q ∨ (∃ (a : Addr) (ps : List Addr) (kvs : List (Key × V)), xs = [.ref a] ∧ SqL K H a (ps.map V.ref) ∧ Paired (fun p kv => SqT K H p [kV kv.1, kv.2]) ps kvs ∧ ∀ p, H p = none → Q (.ref p) (upd H p (.dK (mergeK [] kvs))))
theorem call_dictZ {X : Cx} (hc : X.calm = true) : CallR X (.type "dict") (rDictZ X.K) := L2.CallR.or (call_dictT hc) (call_dictP hc)
section
variable {W : Wd} {H : Hp}
theorem dds_pairs : ∀ {vs : List V} {ds : List Dat} {kds : List (Key × Dat)}, DDs W H vs ds → pairsO ds = some kds → ∃ (ps : List Addr) (kvs : List (Key × V)), vs = ps.map V.ref ∧ Paired (fun p kv => SqT W.K H p [kV kv.1, kv.2]) ps kvs ∧ DDk W H kvs kds
  | _, _, _, .nil, h => by cases h; exact ⟨[], [], rfl, .nil, .nil⟩
  | _, _, _, .cons (d := d) (ds := r) a b, h => by
    unfold pairsO at h
    split at h
    · rename_i p l hp hl
      cases h
      obtain ⟨ps, kvs, rfl, h2, h3⟩ := dds_pairs b hl
      unfold pairO at hp
      split at hp
      · rename_i s k d
        obtain ⟨q, hq, rfl⟩ := Option.map_eq_some_iff.mp hp
        obtain ⟨t, xs, rfl, ht, dt⟩ := dd_tup a
        obtain ⟨x, y, rfl, dx, dy⟩ := dds2 dt
        have e := keyO_some hq dx
        subst e
        exact ⟨t :: ps, (q, y) :: kvs, rfl, .cons ht h2, .cons dy h3⟩
      · cases hp
    · cases h
theorem ddk_merge : ∀ {more : List (Key × V)} {dm : List (Key × Dat)} {kvs : List (Key × V)} {dk : List (Key × Dat)}, DDk W H more dm → DDk W H kvs dk → DDk W H (mergeK kvs more) (mergeD dk dm)
  | _, _, _, _, .nil, h => h
  | _, _, _, _, .cons (k := k) a b, h => by
    have := ddk_merge b (ddk_put (k := k) h a)
    exact this
theorem dictZ_core {vs : List V} {ds : List Dat} {kds : List (Key × Dat)} {Q : VK} (h : dictO ds = some kds) (hd : DDs W H vs ds) (k : ∀ (p : Addr) (kvs : List (Key × V)), H p = none → DDk W H kvs kds → Q (.ref p) (upd H p (.dK kvs))) : rDictZ W.K vs H Q := by
  unfold dictO at h
  split at h
  · obtain ⟨l, hl, rfl⟩ := Option.map_eq_some_iff.mp h
    obtain ⟨v, rfl, dv⟩ := dds1 hd
    obtain ⟨a, xs, rfl, ha, hs, da⟩ := dd_tupS dv
    obtain ⟨ps, kvs, rfl, h2, h3⟩ := dds_pairs da hl
    exact .inl ⟨a, ps, kvs, rfl, ha, hs rfl, h2, fun p hp => k p _ hp (ddk_merge h3 .nil)⟩
  · obtain ⟨l, hl, rfl⟩ := Option.map_eq_some_iff.mp h
    obtain ⟨v, rfl, dv⟩ := dds1 hd
    obtain ⟨a, o, xs, rfl, ha, da⟩ := dd_lst dv
    obtain ⟨ps, kvs, rfl, h2, h3⟩ := dds_pairs da hl
    exact .inr ⟨a, ps, kvs, rfl, .inl (.inr ⟨o, ha⟩), h2, fun p hp => k p _ hp (ddk_merge h3 .nil)⟩
  · cases h
theorem r_dict : RLOkF W (rDictZ W.K) (fun ds => (dictO ds).map Dat.dic) := fun H vs ds z Q h hd k => by
  obtain ⟨l, hl, rfl⟩ := Option.map_eq_some_iff.mp h
  exact dictZ_core hl hd fun p kvs hp hk => dd_mkD hp hk k
theorem rn_dict : RNOk W (rDictZ W.K) (fun ds => (dictO ds).map MO.dic) := fun H vs ds o Q h hd k => by
  obtain ⟨l, hl, rfl⟩ := Option.map_eq_some_iff.mp h
  exact dictZ_core hl hd fun p kvs hp hk => k p _ hp (Same.new hp) ⟨kvs, upd_same, hk.mo (MoD.same (Same.new hp))⟩
end
end DL

set_option Elab.async false
set_option linter.all false
set_option maxRecDepth 100000
set_option maxHeartbeats 4000000
/-! E0: sets by a kind of keys, as lists of their keys in the order of the entries: one more key. -/
namespace EX
open PySem PySem.Spec PyProof.Rows L2
section
variable {P : Program} {w : World} {κ : Type} [DecidableEq κ]
abbrev Row (knd : PySem.KeyKind P w κ) (k : κ) (e : Int × Value) : Prop := knd.is k e.2 = true ∧ e.1 = knd.hash k ∧ e.2.scannable = true
/-- the set at a has the keys ks, in some sequence -/
def SG (knd : PySem.KeyKind P w κ) (h : Heap) (a : Addr) (ks : List κ) : Prop :=
  ∃ o es ep t, (h.get? a = some o ∧ o.ExactSet ∧ o.data = .set es ep t) ∧ (Paired (Row knd) ks es.toList ∧ ks.Nodup) ∧ (es.size < scanBound ∧ t.fits es.size = true) ∧ Ris t.place.toList ∧ (w.params.followText "set-order" = true ∨ t.led = true)
variable {knd : PySem.KeyKind P w κ}
theorem SG.at {h h' : Heap} {a : Addr} {ks : List κ} (g : SG knd h a ks) (k : ∀ o, h.get? a = some o → h'.get? a = some o) : SG knd h' a ks := let ⟨o, es, ep, t, ⟨h1, h2⟩, r⟩ := g; ⟨o, es, ep, t, ⟨k o h1, h2⟩, r⟩
theorem paired_perm {α β : Type} {F : α → β → Prop} : ∀ {l l' : List β} {ks : List α}, l.Perm l' → Paired F ks l → ∃ ks' : List α, ks.Perm ks' ∧ Paired F ks' l' := by
  intro l l' ks p
  induction p generalizing ks with
  | nil => exact fun h => ⟨ks, .refl _, h⟩
  | cons x p ih =>
    intro h
    rcases h with _ | ⟨a, b⟩
    obtain ⟨k2, p2, h2⟩ := ih b
    exact ⟨_, p2.cons _, .cons a h2⟩
  | swap x y l =>
    intro h
    rcases h with _ | ⟨a, b⟩
    rcases b with _ | ⟨c, d⟩
    exact ⟨_, .swap _ _ _, .cons c (.cons a d)⟩
  | trans p q ih1 ih2 =>
    intro h
    obtain ⟨k1, p1, h1⟩ := ih1 h
    obtain ⟨k2, p2, h2⟩ := ih2 h1
    exact ⟨k2, p1.trans p2, h2⟩
theorem paired_mem {α β : Type} {F : α → β → Prop} : ∀ {ks : List α} {l : List β}, Paired F ks l → (∀ e ∈ l, ∃ k ∈ ks, F k e) ∧ ∀ k ∈ ks, ∃ e ∈ l, F k e
  | _, _, .nil => ⟨fun e h => absurd h List.not_mem_nil, fun e h => absurd h List.not_mem_nil⟩
  | _, _, .cons a b => by
    obtain ⟨h1, h2⟩ := paired_mem b
    refine ⟨fun e h => (List.mem_cons.mp h).elim (fun z => z ▸ ⟨_, List.mem_cons_self, a⟩) fun h => let ⟨k, q, r⟩ := h1 e h; ⟨k, List.mem_cons_of_mem _ q, r⟩, fun k h => (List.mem_cons.mp h).elim (fun z => z ▸ ⟨_, List.mem_cons_self, a⟩) fun h => let ⟨e, q, r⟩ := h2 k h; ⟨e, List.mem_cons_of_mem _ q, r⟩⟩
theorem rows_elems {ks : List κ} {l : List (Int × Value)} (p : Paired (Row knd) ks l) : ElemsOf knd l := fun e he => let ⟨k, _, h1, h2, h3⟩ := (paired_mem p).1 e he; ⟨⟨k, h1, h2⟩, h3⟩
variable {A : Around} {E : Value → Shared → Prop} {s : Shared} {a : Addr} {ks : List κ}
/-- the new entries are stored, laid anew where the table is too full -/
theorem store_rows {g : Bool → Sem Unit} (hg : ∀ (b : Bool) (s₁ : Shared) (Q' : Unit → Shared → Prop), Q' () s₁ → wpAny (model P w) A (g b) Q' E s₁) {o : Obj} {es : Array (Int × Value)} {ep : Nat} {t : SetTable} (ho : s.heap.get? a = some o ∧ o.ExactSet ∧ o.data = .set es ep t)
    {es1 : Array (Int × Value)} {t2 : SetTable} {k1 : List κ} (p1 : Paired (Row knd) k1 es1.toList ∧ k1.Nodup) (f1 : es1.size < scanBound ∧ t2.fits es1.size = true) (r1 : Ris t2.place.toList) (l1 : w.params.followText "set-order" = true ∨ t2.led = true) {wasDummy : Bool} {R : Option Bool → Shared → Prop}
    (hR : ∀ h' k2, Heap.SameBut a s.heap h' → k2.Perm k1 → SG knd h' a k2 → R (some true) { s with heap := h' }) :
    wpAny (model P w) A (do storeSet a es1 t2; if (!wasDummy && t2.tooFull) = true then do { g (relayAll t2 es1 (SetTable.grown es1.size)).2.2; storeSet a (relayAll t2 es1 (SetTable.grown es1.size)).1 (relayAll t2 es1 (SetTable.grown es1.size)).2.1; pure (some true) } else pure (some true)) R E s := by
  obtain ⟨g1, g2, g3⟩ := ho
  refine wpAny_bind (wpAny_storeSet_of g1 g3 ?_ (fits_of_scanBound f1.1))
  have st := store_at (es' := es1) (t' := t2) g1 g3
  have sb := Heap.SameBut.update s.heap a (Obj.putSet es1 t2)
  split
  · have q1 := relayAll_perm t2 es1 (SetTable.grown es1.size); have q2 := relayAll_fits t2 es1 (SetTable.grown es1.size); have q3 := relayAll_ris t2 es1 (SetTable.grown es1.size); have q4 := relayAll_led t2 es1 (SetTable.grown es1.size)
    generalize relayAll t2 es1 (SetTable.grown es1.size) = z at q1 q2 q3 q4 ⊢
    rcases z with ⟨es2, t3, gave⟩
    simp only at q1 q2 q3 q4 ⊢
    have hs : es2.size = es1.size := by have := q1.length_eq; rwa [Array.length_toList, Array.length_toList] at this
    obtain ⟨k2, pk, pp⟩ := paired_perm q1.symm p1.1
    refine wpAny_bind (hg _ _ _ (wpAny_bind (wpAny_storeSet_of st rfl (wpAny_pure (hR _ k2 (sb.trans (Heap.SameBut.update _ a _)) pk.symm ?_)) (by rw [hs]; exact fits_of_scanBound f1.1))))
    exact ⟨_, es2, _, t3, ⟨store_at (es' := es2) (t' := t3) st rfl, g2, rfl⟩, ⟨pp, pk.nodup_iff.mp p1.2⟩, ⟨by rw [hs]; exact f1.1, q2⟩, q3, l1.imp id fun z => by rw [q4]; exact z⟩
  · exact wpAny_pure (hR _ k1 sb (.refl _) ⟨_, es1, _, t2, ⟨st, g2, rfl⟩, p1, f1, r1, l1⟩)
theorem paired_len {α β : Type} {F : α → β → Prop} : ∀ {ks : List α} {l : List β}, Paired F ks l → ks.length = l.length
  | _, _, .nil => rfl
  | _, _, .cons _ b => congrArg Nat.succ (paired_len b)
/-- what comes of one more key -/
def Plus (ks : List κ) (k : κ) (k2 : List κ) : Prop := if k ∈ ks then k2.Perm ks else k2.Perm (k :: ks)
theorem row_is {k : κ} {x : Value} (hk : knd.is k x = true) {l : List (Int × Value)} (p : Paired (Row knd) ks l) : (∃ e ∈ l, knd.is k e.2 = true) ↔ k ∈ ks := by
  refine ⟨fun ⟨e, he, q⟩ => ?_, fun h => let ⟨e, he, q⟩ := (paired_mem p).2 k h; ⟨e, he, q.1⟩⟩
  obtain ⟨k', hk', r⟩ := (paired_mem p).1 e he
  rw [knd.inj e.2 k k' q r.1]
  exact hk'
/-- one more value -/
theorem add_row {k : κ} {x : Value} {Q : Bool → Shared → Prop} (hk : knd.is k x = true) (hx : x.scannable = true) (G : SG knd s.heap a ks) (room : ks.length + 1 < scanBound)
    (hQ : ∀ h' k2 b, Heap.SameBut a s.heap h' → Plus ks k k2 → SG knd h' a k2 → Q b { s with heap := h' }) : wpAny (model P w) A (setAddHashed a x (knd.hash k)) Q E s := by
  obtain ⟨o, es, ep, t, ⟨ho, hex, hd⟩, ⟨pr, nd⟩, ⟨hb, hf⟩, hr, hl⟩ := id G
  have el := rows_elems pr
  have calm : ∀ (b : Bool) (s₁ : Shared) (Q' : Unit → Shared → Prop), Q' () s₁ → wpAny (model P w) A (match b with | true => rule "set.scan.the-table-gave-way" | false => pure ()) Q' E s₁ := fun b s₁ Q' q => by
    cases b
    · exact wpAny_pure q
    · exact wpAny_rule q
  unfold setAddHashed setAddHashedIn
  refine wpAny_holding (wpAny_bind (wpAny_setState_of ho hd hf ?_)); dsimp only; rw [byScan_of hx hb el]; simp only [↓reduceIte]; unfold setAddByScan
  refine wpAny_bind (wpAny_bind (wpAny_rule (wpAny_bind (wpAny_setScan_of hk ho hd hf el ?_))))
  cases hfi : List.findIdx? (fun e => knd.is k e.2) es.toList with
  | some j =>
    obtain ⟨hj, pj, _⟩ := List.findIdx?_eq_some_iff_getElem.mp hfi
    have hin : k ∈ ks := (row_is hk pr).mp ⟨es.toList[j], List.getElem_mem hj, pj⟩
    exact wpAny_pure (wpAny_pure (hQ s.heap ks _ (Heap.SameBut.refl a s.heap) (by unfold Plus; rw [if_pos hin]) G))
  | none =>
    have hno : k ∉ ks := fun z => by
      obtain ⟨e, he, q⟩ := (row_is hk pr).mpr z
      have c := List.findIdx?_eq_none_iff.mp hfi e he
      rw [q] at c; cases c
    dsimp only
    have q1 := layNew_perm t es (knd.hash k) x; have q2 := layNew_fits t es (knd.hash k) x; have q3 := layNew_ris t es (knd.hash k) x hr; have q4 := layNew_led t es (knd.hash k) x
    generalize layNew t es (knd.hash k) x = z at q1 q2 q3 q4 ⊢
    rcases z with ⟨es1, t1, wasDummy, gave⟩
    simp only [Array.toList_push] at q1 q2 q3 q4 ⊢
    have pc : ((knd.hash k, x) :: es.toList).Perm es1.toList := (q1.trans (List.perm_append_singleton _ _)).symm
    obtain ⟨k1, pk, pp⟩ := paired_perm pc (Paired.cons (show Row knd k (knd.hash k, x) from ⟨hk, rfl, hx⟩) pr)
    have nd1 : k1.Nodup := pk.nodup_iff.mp (List.nodup_cons.mpr ⟨hno, nd⟩)
    have hz : es1.size < scanBound := by
      have := paired_len pp
      rw [← pk.length_eq, List.length_cons] at this
      rw [← Array.length_toList, ← this]; exact room
    have led1 : w.params.followText "set-order" = true ∨ t1.led = true := hl.imp id fun z => by rw [q4]; exact z
    have fin : ∀ h' k2, Heap.SameBut a s.heap h' → k2.Perm k1 → SG knd h' a k2 → ∀ b, Q b { s with heap := h' } := fun h' k2 sb p2 g b => hQ h' k2 b sb (by unfold Plus; rw [if_neg hno]; exact p2.trans pk.symm) g
    refine wpAny_bind (calm _ _ _ ?_)
    split
    · refine wpAny_bind ?_; rw [hashByValue_scannable 8 hx]
      refine wpAny_pure (store_rows (g := fun b => match b with | true => rule "set.scan.the-table-gave-way" | false => pure ()) calm ⟨ho, hex, hd⟩ ⟨pp, nd1⟩ ⟨hz, ?_⟩ ?_ ?_ fun h' k2 sb p2 g => wpAny_pure (fin h' k2 sb p2 g _))
      · first | (split <;> first | exact q2 | exact SetTable.fits_plain_off q2) | exact q2
      · first | (split <;> exact q3) | exact q3
      · first | (split <;> exact led1) | exact led1
    · refine wpAny_bind (wpAny_pure ?_); simp only [↓reduceIte]
      exact store_rows (g := fun b => match b with | true => rule "set.scan.the-table-gave-way" | false => pure ()) calm ⟨ho, hex, hd⟩ ⟨pp, nd1⟩ ⟨hz, q2⟩ q3 led1 fun h' k2 sb p2 g => wpAny_pure (fin h' k2 sb p2 g _)
end
end EX

set_option Elab.async false
set_option linter.all false
set_option maxRecDepth 100000
set_option maxHeartbeats 4000000
/-! E1: set(xs) of a list by a kind of keys. -/
namespace EX
open PySem PySem.Spec PyProof.Rows L2
section
variable {P : Program} {w : World} {κ : Type} [DecidableEq κ] {knd : PySem.KeyKind P w κ} {A : Around} {R : Result → Shared → Prop} {I : Addr} {fp wr : List Addr} {G : Array GenState → Array GenState → Prop} {n : Nat} {Pv : Nat → Value → Prop} {St : Nat → Shared → Prop}
theorem plus_len {ks k2 : List κ} {k : κ} (p : Plus ks k k2) : k2.length ≤ ks.length + 1 := by
  unfold Plus at p
  split at p
  · rw [p.length_eq]; omega
  · rw [p.length_eq]; exact Nat.le_refl _
theorem plus_mem {ks k2 : List κ} {k j : κ} (p : Plus ks k k2) : j ∈ k2 ↔ j ∈ ks ∨ j = k := by
  unfold Plus at p
  split at p
  · rename_i h; rw [p.mem_iff]; exact ⟨.inl, fun z => z.elim id fun e => e ▸ h⟩
  · rw [p.mem_iff, List.mem_cons]; exact Or.comm
theorem rows_loop (W : WalksS P w A.in1 I fp wr G n Pv St) (S : Addr) (hS : S ∉ fp) (xs : List κ) (hn : n = xs.length) (room : xs.length + 1 < scanBound) (hval : ∀ i v, Pv i v → ∃ k, xs[i]? = some k ∧ knd.is k v = true ∧ v.scannable = true) :
    ∀ (m i : Nat) (s : Shared) (ks : List κ), n - i = m → i ≤ n → St i s → SG knd s.heap S ks → ks.length ≤ i → (∀ k, k ∈ ks ↔ k ∈ xs.take i) →
      (∀ s' ks', Moved (S :: wr) G s s' → SG knd s'.heap S ks' → (∀ k, k ∈ ks' ↔ k ∈ xs) → ks'.length ≤ n → R (.ok (.ret .none)) s') → codeAny (model P w) A (.builtin "set.update.loop" ⟨[.ref S, .ref I], []⟩) R s := by
  have nw : S ∉ wr := fun h => hS (W.sub _ h)
  have up : ∀ b ∈ wr, b ∈ S :: wr := fun b hb => List.mem_cons_of_mem _ hb
  intro m
  induction m with
  | zero =>
    intro i s ks hm hi st g hl hk hR
    have e : i = n := by omega
    subst e
    refine codeAny_builtin PyProof.Rows.F.entry_set_update_loop ?_; rw [Around.under_plainId PyProof.Rows.F.plain_set_update_loop _]
    show wpAny _ A.in1 (pyNext (.ref I) >>= _) _ _ s
    refine wpAny_bind (W.done s _ _ st fun s' mv => wpAny_pure (hR s' ks (mv.mono up) (g.at fun o e => mv.heap S o nw e) (fun k => by rw [hk k, List.take_of_length_le (by omega)]) hl))
  | succ m ih =>
    intro i s ks hm hi st g hl hk hR
    have lt : i < n := by omega
    refine codeAny_builtin PyProof.Rows.F.entry_set_update_loop ?_; rw [Around.under_plainId PyProof.Rows.F.plain_set_update_loop _]
    show wpAny _ A.in1 (pyNext (.ref I) >>= _) _ _ s
    refine wpAny_bind (W.item i s _ _ lt st fun v s' hP st' mv => ?_)
    obtain ⟨k, hx, h1, h2⟩ := hval i v hP
    show wpAny _ A.in1 (holding [v] (setAdd S v) >>= _) _ _ s'
    refine wpAny_bind (wpAny_holding ?_); unfold setAdd
    refine wpAny_holding (wpAny_bind (knd.pyHash (k := k) h1 (add_row (s := { s' with toks := s'.toks + 1 }) h1 h2 (g.at fun o e => mv.heap S o nw e) (by omega) fun h' k2 b sb p2 g2 => ?_)))
    have l2 := plus_len p2
    refine wpAny_pure ⟨plainId_quiet PyProof.Rows.F.plain_set_update_loop _, ih (i + 1) _ k2 (by omega) lt (W.frame _ s' _ _ st' (Nat.le_succ _) fun b hb o e => (sb.2 b (fun z => hS (z ▸ hb))).trans e) g2 (by omega) (fun j => ?_) fun s'' k3 mv' g3 m3 l3 => ?_⟩
    · rw [plus_mem p2, hk j, List.take_add_one, hx, List.mem_append, Option.toList_some, List.mem_singleton]
    · exact hR s'' k3 (Moved.trans W.gtrans ((mv.mono up).then_heap (Nat.le_succ _) fun b o hb e => (sb.2 b (fun z => hb (by rw [z]; exact List.mem_cons_self))).trans e) mv') g3 m3 l3
end
section
variable {P : Program} {w : World} {κ : Type} [DecidableEq κ] {knd : PySem.KeyKind P w κ} {A : Around} {E : Value → Shared → Prop} {s : Shared}
/-- a new set's object -/
abbrev set0 (w : World) : Obj := { cls := .type "set", dict := none, data := .set #[] 0 (.fresh 0 0 (!w.params.followText "set-order")) }
theorem sg_new {h : Heap} {a : Addr} (ho : h.get? a = some (set0 w)) : SG knd h a [] := ⟨_, #[], 0, _, ⟨ho, ⟨rfl, rfl, rfl⟩, rfl⟩, ⟨.nil, List.nodup_nil⟩, ⟨by decide, by rfl⟩, List.Pairwise.nil, by
  show _ ∨ (!w.params.followText "set-order") = true
  cases w.params.followText "set-order" <;> simp⟩
/-- set(l), l a list whose items are the keys xs -/
theorem set_of_list {l : Addr} {items : Array Value} (xs : List κ) {Q : Value → Shared → Prop} (hh : A.handled = none) (hl : s.heap.IsList l items) (hn : items.size = xs.length) (room : xs.length + 1 < scanBound)
    (hv : ∀ (i : Nat) (v : Value), items[i]? = some v → ∃ k, xs[i]? = some k ∧ knd.is k v = true ∧ v.scannable = true)
    (h : ∀ (h' : Heap) (tk : Nat) (ks : List κ), SG knd h' s.heap.objs.size ks → (∀ k, k ∈ ks ↔ k ∈ xs) → ks.length ≤ xs.length → (∀ b o, s.heap.get? b = some o → h'.get? b = some o) → Q (.ref s.heap.objs.size) { s with heap := h', toks := tk }) :
    wpAny (model P w) A (call (.type "set") [.ref l]) Q E s := by
  obtain ⟨cc, tl, hmro⟩ := PySem.F.called_set.mro
  have made := PySem.F.called_set.made; have sub := PySem.F.called_set.sub; have nt := PySem.F.called_set.notType; have cr := PySem.F.called_set.canCreate; have tc := PySem.F.typeCall_set_1 (.ref l)
  refine wpAny_call (codeAny_of_tree ?_); show wpAny _ _ (callAny (.type "set") _) _ _ _
  refine wpAny_pure ⟨Code.quiet_builtin _ (by decide +kernel), codeAny_builtin PySem.F.entry_type_call ?_⟩; rw [Around.under_plain (weight_type_call_type "set" [.ref l] []) rfl]
  repeat (any_goals (first | assumption | wp_step))
  refine codeAny_mono (code_set_led1 (.ref l) (E := E) (Q₁ := fun ob s1 => ob = .ref s.heap.objs.size ∧ s1 = { s with heap := s.heap.push (set0 w) }) ⟨rfl, rfl⟩) fun r s1 hr => ?_
  rcases r with e | fl
  · exact hr
  cases fl <;> try exact hr.elim
  obtain ⟨rfl, rfl⟩ := hr
  have at0 : (s.heap.push (set0 w)).get? s.heap.objs.size = some (set0 w) := Heap.get?_push_size _ rfl
  have ty0 : Shared.TypeIs { s with heap := s.heap.push (set0 w) } (.ref s.heap.objs.size) "set" := ⟨_, at0, rfl⟩
  have il := PySem.F.called_set.init.lookup; have ib := PySem.F.called_set.init.bind (.ref s.heap.objs.size)
  repeat (any_goals (first | assumption | wp_step))
  refine codeAny_mono (codeAny_call_builtin (R := wants (fun r s2 => r = .none ∧ ∃ h' tk ks, s2 = { s with heap := h', toks := tk } ∧ SG knd h' s.heap.objs.size ks ∧ (∀ k, k ∈ ks ↔ k ∈ xs) ∧ ks.length ≤ xs.length ∧ ∀ b o, s.heap.get? b = some o → h'.get? b = some o) E)
    PySem.F.called_set.init.plain PySem.F.entry_set_init (check_set_init_1 ty0 ?_)) fun r2 s2 hr2 => ?_
  · obtain ⟨⟨oc, od, oda, os⟩, ho, hc, nl, hd⟩ := hl
    simp only at hc hd
    subst hc hd
    have ho1 : (s.heap.push (set0 w)).get? l = some { cls := .type "list", dict := od, data := .seq items nl, slots := os } := Heap.get?_push_of_some _ ho
    have hl1 : (s.heap.push (set0 w)).IsList l items := ⟨_, ho1, rfl, nl, rfl⟩
    have f1 := PySem.F.sub_list_set; have f2 := PySem.F.sub_list_frozenset; have f3 : (Value.type "list" == Value.type "dict") = false := by decide
    unfold Builtin.«set.__init__» noKeywords Builtin.Frozenset.updateFrom
    generalize hPI : pyIter = PI
    wp_walk
    subst hPI
    refine wpAny_pyIter_list hl1 (wpAny_bind (wpAny_runValue ?_))
    have lt : l < s.heap.objs.size := Heap.lt_size ho
    have zz : (s.heap.push (set0 w)).objs.size = s.heap.objs.size + 1 := Heap.size_push ..
    have nI : l ≠ (s.heap.push (set0 w)).objs.size := by rw [zz]; exact Nat.ne_of_lt (Nat.lt_succ_of_lt lt)
    have nS : s.heap.objs.size ∉ [(s.heap.push (set0 w)).objs.size, l] := fun q => (List.mem_cons.mp q).elim (fun q => absurd (q.trans zz) (Nat.ne_of_lt (Nat.lt_succ_self _))) fun q => absurd (List.mem_singleton.mp q) (Nat.ne_of_gt lt)
    refine rows_loop (knd := knd) ((Walks.list (by simp [hh]) _ l nI items).toS) s.heap.objs.size nS xs hn room hv (items.size - 0) 0 _ [] rfl (Nat.zero_le _) ⟨⟨_, Heap.get?_push_size _ rfl, rfl, rfl⟩, (hl1.push _)⟩ (sg_new (Heap.get?_push_of_some _ at0)) (Nat.le_refl _) (fun k => by simp) ?_
    rintro ⟨h', g', d', tk', os'⟩ ks mv g m3 l3
    obtain rfl : g' = s.gens := mv.gens
    obtain rfl : d' = s.drawn := mv.drawn
    obtain rfl : os' = s.os := mv.os
    show wpAny _ _ _ _ _ _
    refine wpAny_pure ?_; show wpAny _ _ (ret Value.none) _ _ _
    refine wpAny_pure ⟨rfl, h', tk', ks, rfl, g, m3, by omega, fun b o e => mv.heap b o (fun q => ?_) (Heap.get?_push_of_some _ (Heap.get?_push_of_some _ e))⟩
    have lb := Heap.lt_size e
    exact (List.mem_cons.mp q).elim (fun q => absurd q (Nat.ne_of_lt lb)) fun q => absurd ((List.mem_singleton.mp q).trans zz) (Nat.ne_of_lt (Nat.lt_succ_of_lt lb))
  · rcases r2 with e | fl
    · exact hr2
    cases fl <;> try exact hr2.elim
    obtain ⟨rfl, h', tk, ks, rfl, g, m3, l3, kp⟩ := hr2
    repeat (any_goals (first | assumption | wp_step))
    exact h _ _ ks g m3 l3 kp
end
end EX

set_option Elab.async false
set_option linter.all false
set_option maxRecDepth 100000
set_option maxHeartbeats 4000000
/-! E2: sorted(set(xs)) of texts. -/
namespace EX
open PySem PySem.Spec PyProof.Rows L2
theorem strs_rows : ∀ {ks : List Str} {vs : List Value}, Paired (fun (k : Str) (v : Value) => Value.isStrOf k v = true) ks vs → StrsAre vs ks
  | _, _, .nil => .nil
  | _, _, .cons a b => by
    obtain ⟨t, rfl⟩ := Value.isStrOf_shape a
    exact .cons _ t (strs_rows b)
theorem paired_map {α β γ : Type} {F : α → β → Prop} {F' : α → γ → Prop} {f : β → γ} (h : ∀ a b, F a b → F' a (f b)) : ∀ {ks : List α} {l : List β}, Paired F ks l → Paired F' ks (l.map f)
  | _, _, .nil => .nil
  | _, _, .cons a b => .cons (h _ _ a) (paired_map h b)
section
variable {P : Program} {w : World} {A : Around} {E : Value → Shared → Prop} {s : Shared}
/-- sorted(a), a a set of texts -/
theorem sorted_of_set {a : Addr} {ks : List Str} {Q : Value → Shared → Prop} (G : SG (PySem.strKind P w) s.heap a ks) (hh : A.handled = none) (few : ks.length < 64)
    (hQ : ∀ s' p (out : Array Value) (c : Nat) (ys : List Str), (∀ b o, s.heap.get? b = some o → s'.heap.get? b = some o) → s'.gens = s.gens → s'.os = s.os → s.heap.objs.size ≤ p → s'.heap.get? p = some (seqObj "list" out c) → StrsAre out.toList ys → ys.Perm ks → sortedS ys = true → Q (.ref p) s') :
    wpAny (model P w) A (call (.builtin "sorted") [.ref a]) Q E s := by
  obtain ⟨o, es, ep, t, ⟨ho, hex, hd⟩, ⟨pr, nd⟩, ⟨hb, hf⟩, hr, hl⟩ := id G
  refine Calls.call_function_entry kind_sorted plain_sorted entry_sorted (args_sorted1 _) ?_; unfold Builtin.«sorted»
  refine wpAny_bind (m := checkCount "sorted" 1 1 _) (wpAny_pure (wpAny_bind (collect_set (A := A.in1) hh ⟨o, ho, hex.1, hd⟩ hf hb hr hl fun s1 vs k1 hz g1 o1 pm => ?_)))
  obtain ⟨xs, px, pv⟩ := paired_perm pm.symm (paired_map (F' := fun (k : Str) (v : Value) => Value.isStrOf k v = true) (f := Prod.snd) (fun k e (r : Row (PySem.strKind P w) k e) => r.1) pr)
  have hS := strs_rows pv
  have hn : vs.length = ks.length := by rw [← paired_len pv, px.length_eq]
  refine wpAny_bind (wpAny_newList ?_ (by rw [hn, sizeLine_eq]; omega))
  have hoL : (s1.heap.push (seqObj "list" vs.toArray 0)).get? s1.heap.objs.size = some (seqObj "list" vs.toArray 0) := Heap.get?_push_size _ rfl
  refine wpAny_bind (wpAny_holding (wpAny_call_entry PyProof.Rows.slot_list_sort ⟨_, hoL, rfl⟩ PyProof.Rows.entry_list_sort (list_sort_treeK strKind_oneLt hoL hS.keysOf (fun v1 v2 rest e => keyKind_strs (by rw [← e]; exact hS)) (by rw [hn]; exact few) fun st' hp hs => ⟨_, rfl, ?_⟩) (PyProof.Rows.args_list_sort _)))
  obtain ⟨ys, y1, y2, y3⟩ := sorted_out_str hS hp hs
  obtain ⟨c, hc⟩ := sortedHeap_at (vs := vs) (out := (arrOf st').map (·.2)) hoL
  refine wpAny_pure ⟨_, rfl, hQ _ s1.heap.objs.size ((arrOf st').map (·.2)) c ys (fun b u e => ?_) g1 o1 hz hc y1 (y2.trans px.symm) y3⟩
  have q := k1 b u e
  show (sortedHeap (s1.heap.push (seqObj "list" vs.toArray 0)) s1.heap.objs.size vs ((arrOf st').map (·.2))).get? b = some u
  rw [sortedHeap_old (Nat.ne_of_lt (Heap.lt_size q)) (Heap.lt_size (Heap.get?_push_of_some _ q))]
  exact Heap.get?_push_of_some _ q
end
/-! ### sorted(set(xs)) -/
def tSortSet (K : PySem.W.Frag) (te : TE) : TE := fun σ H Q => te σ H fun x H1 => ∃ (l : Addr) (xs : List Str), x = .ref l ∧ SqL K H1 l (xs.map V.str) ∧ xs.length < 64 ∧
  ∀ (ys : List Str) (p : Addr), ys.Nodup → sortedS ys = true → (∀ k, k ∈ ys ↔ k ∈ xs) → H1 p = none → Q (.ref p) (upd H1 p (.lst (ys.map V.str)))
theorem pe_sortSet {X : Cx} {a : Expr} {ta : TE} {p p2 q pos : Pos} (hg : Gl X "sorted") (hm : X.mg "sorted" = none) (hg2 : Gl X "set") (hm2 : X.mg "set" = none) (ha : PE X a ta) (hc : X.calm = true := by rfl)
    (na : starEach [a] X.env = (false, eval a X.env) :: starEach [] X.env := by rfl) : PE X (.Call (.Name "sorted" p) [.Call (.Name "set" p2) [a] [] q] [] pos) (tSortSet X.K ta) := by
  refine ⟨fun pins s σ H Q I h => Call_ (ld_blt I hg hm PyProof.Rows.boot_sorted (PyProof.Rows.callWith_builtin1 (PyProof.Rows.args_cons (Call_ (ld_blt I hg2 hm2 boot_set ?_)) rfl) rfl rfl))⟩
  refine PyProof.Rows.callWith_type1 (PyProof.Rows.args_cons (thn (ha.run pins s σ H _ I h) fun v s1 ⟨x, H1, I1, r1, q1⟩ => PyProof.Rows.args_nil ?_) na) na rfl
  obtain ⟨l, xs, rfl, hq, few, q1⟩ := q1
  cases r1
  obtain ⟨its, r, pl, hz⟩ := I1.list hq
  have hS := r.strs
  have hn : its.length = xs.length := by have := r.length; rw [List.length_map] at this; exact this.symm
  refine set_of_list (knd := PySem.strKind X.prog X.w) xs (I1.ok.hd hc) pl.isList (by rw [List.size_toArray, hn]) (by unfold scanBound; omega) (fun i v hv => ?_) fun h' tk ks g mem len hk => PyProof.Rows.args_nil ?_
  · rw [List.getElem?_toArray] at hv
    obtain ⟨t, e⟩ := SS.strs_at hS i v hv
    have hi : i < xs.length := by rw [← hn]; exact (List.getElem?_eq_some_iff.mp hv).1
    refine ⟨xs[i], List.getElem?_eq_getElem hi, ?_, ?_⟩
    · rw [e, List.getD_eq_getElem?_getD, List.getElem?_eq_getElem hi]; exact strKind_is _ _ _ _
    · rw [e]; rfl
  · have I2 : L2.Inv X pins σ H1 { s1 with heap := h', toks := tk } := I1.kept hk
    refine sorted_of_set g (I1.ok.hd hc) (by omega) fun s' p out c ys k gg oo hp hgt hys hper hso => ?_
    have hl : ys.length < 64 := by rw [hper.length_eq]; omega
    have hnone : H1 p = none := I2.hok.fresh hp
    have J : L2.Inv X pins σ (upd H1 p (.lst (ys.map V.str))) { ({ s1 with heap := h', toks := tk } : Shared) with heap := s'.heap, gens := s'.gens, drawn := s'.drawn, toks := s'.toks } :=
      I2.call (ch := []) (Un.laid k hp hnone) (I2.hok.laid k hp ⟨by rw [List.length_map, sizeLine_eq]; omega, out.toList, c, vals_of_strs hys, hgt⟩) (by rw [gg]; exact I2.bare) (fun _ z => nomatch z)
    have e : s' = { ({ s1 with heap := h', toks := tk } : Shared) with heap := s'.heap, gens := s'.gens, drawn := s'.drawn, toks := s'.toks } := by
      cases s'
      cases s1
      cases oo
      rfl
    have nd : ks.Nodup := let ⟨_, _, _, _, _, ⟨_, nd⟩, _⟩ := g; nd
    rw [e]
    exact ⟨.ref p, _, J, rfl, q1 ys p (hper.nodup_iff.mpr nd) hso (fun z => by rw [hper.mem_iff, mem z]) hnone⟩
end EX

set_option Elab.async false
set_option linter.all false
set_option maxRecDepth 100000
set_option maxHeartbeats 4000000
/-! D19: sorted(set(xs)) of texts by its mirror. -/
namespace DL
open PySem PySem.Spec PyProof.Rows L2 GX
/-- each once -/
def onceL : List Str → List Str
  | [] => []
  | x :: r => if x ∈ onceL r then onceL r else x :: onceL r
theorem once_mem {k : Str} : ∀ (xs : List Str), k ∈ onceL xs ↔ k ∈ xs
  | [] => Iff.rfl
  | x :: r => by
    unfold onceL
    split
    · rename_i h
      rw [once_mem r, List.mem_cons]
      exact ⟨.inr, fun z => z.elim (fun e => e ▸ (once_mem r).mp h) id⟩
    · rw [List.mem_cons, List.mem_cons, once_mem r]
theorem once_nodup : ∀ (xs : List Str), (onceL xs).Nodup
  | [] => List.nodup_nil
  | x :: r => by
    unfold onceL
    split
    · exact once_nodup r
    · rename_i h
      exact List.nodup_cons.mpr ⟨h, once_nodup r⟩
theorem perm_of_mem : ∀ {xs ys : List Str}, xs.Nodup → ys.Nodup → (∀ k, k ∈ xs ↔ k ∈ ys) → xs.Perm ys
  | [], ys, _, _, h => by
    cases ys with
    | nil => exact .refl _
    | cons y r => exact absurd ((h y).mpr List.mem_cons_self) List.not_mem_nil
  | x :: r, ys, n1, n2, h => by
    obtain ⟨a, b, rfl⟩ := List.append_of_mem ((h x).mp List.mem_cons_self)
    obtain ⟨h1, h2⟩ := List.nodup_cons.mp n1
    have pm : (a ++ x :: b).Perm (x :: (a ++ b)) := List.perm_middle
    obtain ⟨h3, h4⟩ := List.nodup_cons.mp (pm.nodup_iff.mp n2)
    refine ((perm_of_mem h2 h4 fun k => ?_).cons x).trans pm.symm
    have := h k
    rw [pm.mem_iff, List.mem_cons, List.mem_cons] at this
    refine ⟨fun z => (this.mp (.inr z)).elim (fun e => absurd z (e ▸ h1)) id, fun z => (this.mpr (.inr z)).elim (fun e => absurd z (e ▸ h3)) id⟩
/-- sorted(set(xs)) -/
def sortSet (xs : List Str) : List Str := sortT (onceL xs)
theorem sortSet_eq {xs ys : List Str} (n : ys.Nodup) (s : sortedS ys = true) (m : ∀ k, k ∈ ys ↔ k ∈ xs) : ys = sortSet xs := sorted_eq (perm_of_mem n (once_nodup xs) fun k => by rw [m, once_mem]) s
def sortSetF : Dat → Option Dat
  | .lst ds => match strsO ds with
    | some xs => if xs.length < 64 then some (.lst ((sortSet xs).map Dat.str)) else none
    | none => none
  | _ => none
theorem ev_sortSet {W : Wd} {E : SK} {te : TE} {m : M Dat} (h : EvE W E te m) : EvE W E (tFzM (EX.tSortSet W.K te)) (mUn sortSetF m) := fun ps pn ad g σ H0 H r Q hm e x k =>
  h.go hm e x fun d g1 v H1 f1 e1 k1 r1 x1 => by
    obtain ⟨z, hz, rfl⟩ := lift_some f1
    unfold sortSetF at hz
    split at hz
    · split at hz
      · rename_i xs hx
        split at hz
        · rename_i hl
          cases hz
          obtain ⟨a, o, us, rfl, ha, da⟩ := dd_lst r1
          have := strs_eq hx da
          subst this
          exact ⟨a, xs, rfl, .inl (.inr ⟨o, ha⟩), hl, fun ys p n s m hp => by
            rw [sortSet_eq n s m]
            exact dd_mkL hp (dds_strs _) fun u H' sm du => k _ _ rfl u H' (e1.same sm) (k1.trans (Kp.same sm)) du⟩
        · cases hz
      · cases hz
    · cases hz
section
variable {X : Cx} {at_ : Addr → Nat} {E : SK} {a : Expr} {p p2 q pos : Pos} {m : M Dat}
theorem q_sortSet (hg : Gl X "sorted") (hm : X.mg "sorted" = none) (hg2 : Gl X "set") (hm2 : X.mg "set" = none) (h : PV X at_ E a m) (hc : X.calm = true := by rfl) (na : starEach [a] X.env = (false, eval a X.env) :: starEach [] X.env := by rfl) :
    PV X at_ E (.Call (.Name "sorted" p) [.Call (.Name "set" p2) [a] [] q] [] pos) (mUn sortSetF m) := let ⟨_, p1, v1⟩ := h; ⟨_, pe_fzm (EX.pe_sortSet hg hm hg2 hm2 p1 hc na), ev_sortSet v1⟩
end
end DL

set_option Elab.async false
set_option linter.all false
set_option maxRecDepth 100000
set_option maxHeartbeats 4000000
/-! D20: k in d; rows that are never come to. -/
namespace DL
open PySem PySem.Spec PyProof.Rows L2 GX
section
variable {X : Cx} {at_ : Addr → Nat} {E : SK} {a b : Expr} {st : Stmt} {pos : Pos} {mk mo : M Dat}
theorem q_inD (hu : X.A.units + 1 < cLine) (hk : PV X at_ E a mk) (ho : PV X at_ E b mo) (hb : behindInMarks .In b = false := by first | exact nobehind _ (by decide) (by decide) | rfl) : PV X at_ E (.Compare a [.In] [b] pos) (mInD false mk mo) :=
  let ⟨_, p1, v1⟩ := hk; let ⟨_, p2, v2⟩ := ho; ⟨_, pe_cmp (pc_din hu p1 p2) hb, ev_inD (W := Wx X at_) false v1 v2⟩
theorem q_ninD (hu : X.A.units + 1 < cLine) (hk : PV X at_ E a mk) (ho : PV X at_ E b mo) (hb : behindInMarks .NotIn b = false := by first | exact nobehind _ (by decide) (by decide) | rfl) : PV X at_ E (.Compare a [.NotIn] [b] pos) (mInD true mk mo) :=
  let ⟨_, p1, v1⟩ := hk; let ⟨_, p2, v2⟩ := ho; ⟨_, pe_cmp (pc_dnotin hu p1 p2) hb, ev_inD (W := Wx X at_) true v1 v2⟩
theorem t_inD (hu : X.A.units + 1 < cLine) (hk : PV X at_ E a mk) (ho : PV X at_ E b mo) (hb : behindInMarks .In b = false := by first | exact nobehind _ (by decide) (by decide) | rfl) : PVT X at_ E (.Compare a [.In] [b] pos) (mTest (mInD false mk mo)) :=
  let ⟨_, p1, v1⟩ := hk; let ⟨_, p2, v2⟩ := ho; ⟨_, pt_cmp (pc_din hu p1 p2) hb, ev_tb (ev_inD (W := Wx X at_) false v1 v2)⟩
theorem t_ninD (hu : X.A.units + 1 < cLine) (hk : PV X at_ E a mk) (ho : PV X at_ E b mo) (hb : behindInMarks .NotIn b = false := by first | exact nobehind _ (by decide) (by decide) | rfl) : PVT X at_ E (.Compare a [.NotIn] [b] pos) (mTest (mInD true mk mo)) :=
  let ⟨_, p1, v1⟩ := hk; let ⟨_, p2, v2⟩ := ho; ⟨_, pt_cmp (pc_dnotin hu p1 p2) hb, ev_tb (ev_inD (W := Wx X at_) true v1 v2)⟩
/-- a row that is never come to -/
theorem v_never : PVS X at_ E st nevM := ⟨_, ps_never, fun ps pn ad g σ H0 H r D hm => by cases hm⟩
/-- an own name read for good (a copy of its value: the name is frozen from here on) -/
theorem q_never {e : Expr} (p : PE X e (fun _ _ _ => False)) : PV X at_ E e nevM := ⟨_, p, fun ps pn ad g σ H0 H r Q hm => by cases hm⟩
end
end DL

set_option Elab.async false
set_option linter.all false
set_option maxRecDepth 100000
set_option maxHeartbeats 4000000
/-! D21: items of data, len of what changes, list(range(..)), own operators by name. -/
namespace DL
open PySem PySem.Spec PyProof.Rows L2 GX
section
variable {X : Cx} {at_ : Addr → Nat} {E : SK} {a b e o : Expr} {pos p q : Pos} {m mk : M Dat} {ml : M (List Dat)}
theorem q_op_ix (h1 : PV X at_ E a m) (h2 : PV X at_ E b mk) (hs : PlainIx b := by exact fun _ _ => rfl) : PV X at_ E (.Subscript a b pos) (mOp ixF m mk) := let ⟨_, p1, v1⟩ := h1; let ⟨_, p2, v2⟩ := h2; ⟨_, pe_ix ix_seq p1 p2 hs, ev_op r_ix v1 v2⟩
theorem call_lenZ {X : Cx} : CallR X (.builtin "len") (rLenZ X.K) := L2.CallR.or call_len call_lenD
theorem q_lenM {i : Nat} (hm : X.mg "len" = none) (ho : PE X o (tVar i)) (hg : Gl X "len" := by rfl) (he : starEach [o] X.env = (false, eval o X.env) :: starEach [] X.env := by rfl) : PV X at_ E (.Call (.Name "len" p) [o] [] pos) (mLenM i) :=
  ⟨_, pe_callB call_lenZ hg hm bt_len (pa_cons ho pa_nil he) (by decide) (by decide) he rfl, ev_lenM⟩
end
theorem op_geZ {X : Cx} : OpR X (compareOp .GtE) rGeZ := GX.OpR.or op_ge op_ge_str
theorem call_listZ {X : Cx} (hc : X.calm = true) : CallR X (.type "list") (rListZ X.K) := L2.CallR.or call_list_of (call_listD hc)
/-! ### list(range(..)) -/
def rgLF : List Dat → Option Dat
  | [.int n] => if -(2 ^ 62) ≤ n ∧ n < 2 ^ 62 ∧ n.toNat ≤ 2 ^ 24 then some (.lst (rgD 0 n.toNat)) else none
  | _ => none
section
variable {W : Wd} {E : SK}
theorem dds_rg {H : Hp} (lo : Int) : ∀ n : Nat, DDs W H ((List.range n).map fun i => V.int (lo + (i : Nat))) (rgD lo n) := fun n => by
  unfold rgD
  generalize List.range n = l
  induction l with
  | nil => exact .nil
  | cons x r ih => exact .cons (.int _) ih
theorem ev_listRg {te : TE} {m : M Dat} (h : EvE W E te m) : EvE W E (tFzM (tLstRg (tRg1 te))) (mFn rgLF (mCons m mNil)) := fun ps pn ad g σ H0 H r Q hm e x k => by
  rcases bnd_some hm with ⟨ds, g1, h1, h2⟩ | ⟨c, w, g1, h1, h2⟩
  · rcases bnd_some h1 with ⟨d, g2, h3, h4⟩ | ⟨c, w, g2, h3, h4⟩
    · cases h4
      obtain ⟨z, hz, rfl⟩ := lift_some h2
      refine h ps pn ad g σ H0 H _ _ h3 e (fun c w g'' z => by cases z) fun d' g'' z v H1 e1 k1 r1 => ?_
      cases z
      unfold rgLF at hz
      split at hz
      · rename_i n hd
        cases hd
        split at hz
        · rename_i hb
          cases hz
          cases dd_int r1
          refine ⟨n, rfl, ⟨by omega, by omega, hb.1, hb.2.1, by rw [Int.sub_zero]; exact hb.2.2⟩, fun q hq => ?_⟩
          have := dds_rg (W := W) (H := H1) 0 n.toNat
          have e2 : rgV 0 n = (List.range n.toNat).map fun i => V.int (0 + (i : Nat)) := by unfold rgV; rw [Int.sub_zero]
          rw [e2]
          exact dd_mkL hq this fun u H' s du => k _ _ rfl u H' (e1.same s) (k1.trans (Kp.same s)) du
        · cases hz
      · cases hz
    · cases h4
  · subst h2
    rcases bnd_some h1 with ⟨d, g2, h3, h4⟩ | ⟨c', w', g2, h3, h4⟩
    · cases h4
    · cases h4
      exact h ps pn ad g σ H0 H _ _ h3 e (fun c' w' g'' z => by cases z; exact x _ _ _ rfl) fun d' g'' z => by cases z
end
section
variable {X : Cx} {at_ : Addr → Nat} {E : SK} {a : Expr} {pos p p2 q : Pos} {m : M Dat}
theorem q_listRg (hm : X.mg "list" = none) (hm2 : X.mg "range" = none) (h : PV X at_ E a m) (hc : X.calm = true := by rfl) (hg : Gl X "list" := by rfl) (hg2 : Gl X "range" := by rfl) (na : starEach [a] X.env = (false, eval a X.env) :: starEach [] X.env := by rfl)
    (nb : starEach [.Call (.Name "range" p2) [a] [] q] X.env = (false, eval (.Call (.Name "range" p2) [a] [] q) X.env) :: starEach [] X.env := by rfl) : PV X at_ E (.Call (.Name "list" p) [.Call (.Name "range" p2) [a] [] q] [] pos) (mFn rgLF (mCons m mNil)) :=
  let ⟨_, p1, v1⟩ := h; ⟨_, pe_fzm (pe_listRg hc hg hm (prg_1 hg2 hm2 p1 na) nb), ev_listRg v1⟩
end
end DL

set_option Elab.async false
set_option linter.all false
set_option maxRecDepth 100000
set_option maxHeartbeats 4000000
/-! D22: classes and objects where nothing is raised; __init__ by its mirror. -/
namespace DL
open PySem PySem.Spec PyProof.Rows L2 GX
def okI (F : FI) : FI := fun ds => match F ds with
  | some (d, none) => some (d, none)
  | _ => none
theorem okI_some {F : FI} {ds : List Dat} {r : Dat × Option (Str × Dat)} (h : okI F ds = some r) : ∃ d, r = (d, none) ∧ F ds = some (d, none) := by
  unfold okI at h
  split at h
  · rename_i d e; cases h; exact ⟨d, rfl, e⟩
  · cases h
section
variable {W : Wd} {E : SK} {E1 : XK}
theorem ev_make0 {c : Str} {C : Addr} {F : FI} {ar n : Nat} {ta : TA} {m : M (List Dat)} {dvs : List V} {dd : List Dat} (hC : W.mg c = some (.ref C)) (hat : 0 < W.at_ C) (hl : LenIs n m) (har : 1 + (n + dd.length) = ar) (hd : ∀ H, DDs W H dvs dd)
    (ha : EvA W E ta m) : EvE W E (tMake C (spI W c ar F) dvs E1 ta) (mMake (okI F) dd m) := fun ps pn ad g σ H0 H r Q hm e x k => by
    unfold tMake
    refine Ev.goM (t := ta) ha hm e x ?_
    intro ds g1 us H1 m1 f1 e1 k1 r1 x1 x' dx fx fd nd
    have hlen : ds.length = n := hl ds g g1 m1
    have s1 : Same H1 (upd (upd H1 dx (.own x')) x' (.ins C dx [])) := fun b o q => by
      rw [upd_ne (ne_of_none q fx), upd_ne (ne_of_none q fd)]
      exact q
    have s2 : ∀ H', (∀ b o, b ≠ x' → (upd (upd H1 dx (.own x')) x' (.ins C dx [])) b = some o → H' b = some o) → Same H1 H' := fun H' h b o q => h b o (ne_of_none q fx) (s1 b o q)
    split at f1
    · rename_i d hF
      cases f1
      obtain ⟨d', e', hF'⟩ := okI_some hF
      cases e'
      exact ⟨x', C, dx, us ++ dvs, ds ++ dd, _, rfl, by rw [List.length_append, hlen]; exact har, hC, hat, upd_same, (r1.mo (MoD.same s1)).app (hd _), hF', fun _ H' hk dv => ⟨rfl, k _ _ rfl _ H' (e1.same (s2 H' hk)) (k1.trans (Kp.same (s2 H' hk))) dv⟩, fun c w z => by cases z⟩
    · rename_i hF
      obtain ⟨d', e', _⟩ := okI_some hF
      cases e'
    · cases f1
end
section
variable {X : Cx} {at_ : Addr → Nat} {E : SK} {E1 : XK} {CX : CXT} {j k n ar : Nat} {C f : Addr} {F : FM} {c x : Str} {p pos : Pos} {e o : Expr} {es : List Expr} {m : M Dat} {ml ma : M (List Dat)}
theorem ev_callO0 {tf : TE} {ta : TA} (hC : X.mg c = some (.ref C)) (hl : LenIs n ma) (har : 1 + n = ar) (h : EvE (Wx X at_) E tf m) (ha : EvA (Wx X at_) E ta ma) : EvE (Wx X at_) E (StX.tCallO X C (spF (Wx X at_) 0 ar F) E1 tf ta) (mCallO c (okF F) m ma) := fun ps pn ad g σ H0 H r Q hm e x k =>
  h.go hm e x fun d g1 v H1 f1 e1 k1 r1 x1 => by
    split at f1
    · rename_i c' gs
      split at f1
      · rename_i hc
        subst hc
        obtain ⟨a, C', dx, fs, rfl, hC', hat, hn, da⟩ := dd_obj r1
        cases mg_inj (W := Wx X at_) hC hC'
        refine ⟨a, rfl, Ev.goM (t := ta) ha f1 e1 x1 fun ds g2 us H2 m2 f2 e2 k2 d2 x2 => ?_⟩
        have dd2 : DDs (Wx X at_) H2 (.ref a :: us) (.obj c' gs :: ds) := .cons (r1.mo (e1.mo k2)) d2
        have hlen : (Dat.obj c' gs :: ds).length = ar := by
          rw [List.length_cons, hl ds _ _ m2]
          omega
        refine ⟨.inr ⟨dx, fs, (e1.mo k2) _ _ hn hat⟩, ?_⟩
        rcases resM_ok f2 with ⟨z, hz, rfl⟩ | ⟨c2, w2, hz, rfl⟩
        · obtain ⟨z', os', e', hz'⟩ := okF_some hz
          cases e'
          exact call_obj dd2 hlen hz' (fun d e v H' s dv => by cases e; exact k _ _ rfl v H' (e2.same s) ((k1.trans k2).trans (Kp.same s)) dv) (fun c w e => by cases e) (fun d os e => by cases e; rfl) (fun c w os e => by cases e)
        · obtain ⟨z', os', e', hz'⟩ := okF_some hz
          cases e'
      · cases f1
    · cases f1
theorem q_mk0 {FI0 : FI} {dvs : List V} {dd : List Dat} (cc : CalC X.prog X.w X.K X.mg X.base CX k x C dvs (spI (Wx X at_) x ar FI0)) (hat : 0 < at_ C) (hr : Room j X.A) (hk : k + 1 ≤ j) (hx : Passes CX X E1) (hd : ∀ H, DDs (Wx X at_) H dvs dd) (har : 1 + (0 + dd.length) = ar) (hg : Gl X x := by rfl) (hdb : (x == ("__debug__" : Str)) = false := by decide) :
    PV X at_ E (.Call (.Name x p) [] [] pos) (mMake (okI FI0) dd mNil) := by
  obtain ⟨f, fd, ps, ds, F0, mk, hb0, hv⟩ := cc.ex
  exact ⟨_, pe_make0 mk F0 (hr.mono hk) hg cc.hm hb0 hv hx hdb, ev_make0 (W := Wx X at_) cc.hm hat len_nil har hd ev_nil⟩
theorem q_mk {FI0 : FI} {dvs : List V} {dd : List Dat} (cc : CalC X.prog X.w X.K X.mg X.base CX k x C dvs (spI (Wx X at_) x ar FI0)) (hat : 0 < at_ C) (hr : Room j X.A) (hk : k + 1 ≤ j) (hx : Passes CX X E1) (hd : ∀ H, DDs (Wx X at_) H dvs dd) (ha : PVA X at_ E (e :: es) ml) (hl : LenIs n ml) (har : 1 + (n + dd.length) = ar) (hg : Gl X x := by rfl)
    (hdb : (x == ("__debug__" : Str)) = false := by decide) (he : starEach (e :: es) X.env = (false, eval e X.env) :: starEach es X.env := by rfl) (hpl : (backTo pos (starEach es X.env)).any (·.1) = false := by rfl) : PV X at_ E (.Call (.Name x p) (e :: es) [] pos) (mMake (okI FI0) dd ml) := by
  obtain ⟨_, p2, v2⟩ := ha
  obtain ⟨f, fd, ps, ds, F0, mk, hb0, hv⟩ := cc.ex
  exact ⟨_, pe_make mk F0 (hr.mono hk) hg cc.hm hb0 hv hx p2 hdb he hpl, ev_make0 (W := Wx X at_) cc.hm hat hl har hd v2⟩
theorem q_callO0 (hm : X.mg c = some (.ref C)) (cm : CalM X.prog X.w X.K X.mg X.base CX k C "__call__" f (spF (Wx X at_) 0 ar F)) (hr : Room j X.A) (hk : k ≤ j) (hx : Passes CX X E1) (h : PV X at_ E o m) (ha : PVA X at_ E (e :: es) ml) (hl : LenIs n ml) (har : 1 + n = ar)
    (ht : eval (.Call o (e :: es) [] pos) X.env = (do callWith pos (← eval o X.env) [] (backTo pos (starEach (e :: es) X.env)) (backToKw pos (keywordEach [] X.env))) := by rfl)
    (he : starEach (e :: es) X.env = (false, eval e X.env) :: starEach es X.env := by rfl) (hpl : (backTo pos (starEach es X.env)).any (·.1) = false := by rfl) : PV X at_ E (.Call o (e :: es) [] pos) (mCallO c (okF F) m ml) := by
  obtain ⟨_, p1, v1⟩ := h
  obtain ⟨_, p2, v2⟩ := ha
  exact ⟨_, StX.pe_callO p1 ⟨cm.at_, cm.fn, cm.fi⟩ (cm.r.mono hk) hr hx p2 ht he hpl, ev_callO0 (X := X) hm hl har v1 v2⟩
end
/-! ### walks of a list or a tuple -/
theorem pi_or {X : Cx} {tg e : Expr} {w1 w2 : TI} (h1 : PI X tg e w1) (h2 : PI X tg e w2) : PI X tg e (fun σ H R => w1 σ H R ∨ w2 σ H R) := ⟨fun pins s σ H R I h => h.elim (h1.run pins s σ H R I) (h2.run pins s σ H R I)⟩
theorem i_any {W : Wd} {E : SK} {te : TE} {m : M Dat} (h : EvE W E te m) : EvI W E (fun σ H R => iList W.K te σ H R ∨ iTup W.K te σ H R) (mSeqO seqD m) := fun ps pn ad g σ H0 H r Q hm e x k => by
  rcases bnd_some hm with ⟨d, g1, h1, h2⟩ | ⟨c, w, g1, h1, h2⟩
  · cases d <;> try (obtain ⟨z, hz, _⟩ := lift_some h2; cases hz; done)
    · rename_i xs
      exact .inl (i_lst h ps pn ad g σ H0 H r Q (by unfold mSeqO bnd; rw [h1]; exact h2) e x k)
    · rename_i s xs
      exact .inr (i_tup h ps pn ad g σ H0 H r Q (by unfold mSeqO bnd; rw [h1]; exact h2) e x k)
  · exact .inl (i_lst h ps pn ad g σ H0 H r Q (by unfold mSeqO bnd; rw [h1, h2]) e x k)
theorem vi_any {X : Cx} {at_ : Addr → Nat} {E : SK} {tg e : Expr} {m : M Dat} (h : PV X at_ E e m) : PVI X at_ E tg e (mSeqO seqD m) := let ⟨_, p, v⟩ := h; ⟨_, pi_or (pi_list p) (pi_tup p), i_any v⟩
/-! ### str(x) -/
def rStrZ : List V → Hp → VK → Prop := fun xs H Q => (∃ i, xs = [.int i] ∧ i.natAbs.log2 < 1920 ∧ Q (.str (toString i)) H) ∨ ∃ a, xs = [.str a] ∧ Q (.str a) H
theorem call_strZ {X : Cx} : CallR X (.type "str") rStrZ := L2.CallR.or call_str_int SkE.call_str_str
theorem r_str {W : Wd} : RLOk W rStrZ strF := fun H vs ds z Q h hd k => by
  obtain ⟨x, rfl, hx⟩ := one_some h
  obtain ⟨v, rfl, dv⟩ := dds1 hd
  cases x <;> try cases hx
  · rename_i i
    have hx : (if i.natAbs.log2 < 1920 then some (Dat.str (Str.ofString (toString i))) else none) = some z := hx
    split at hx
    · rename_i hb
      cases hx
      exact .inl ⟨i, by rw [dd_int dv], hb, k _ _ (Same.rf H) (.str _)⟩
    · cases hx
  · exact .inr ⟨_, by rw [dd_str dv], k _ _ (Same.rf H) (.str _)⟩
/-! ### own operators -/
theorem CalM.mono {P : Program} {w : World} {K : PySem.W.Frag} {mg : Str → Option Value} {base : Heap} {CX : CXT} {k j : Nat} {C f : Addr} {m : Str} {sp : Sp} (c : CalM P w K mg base CX k C m f sp) (h : k ≤ j) : CalM P w K mg base CX j C m f sp := ⟨let ⟨fd, ps, F, hb⟩ := c.ex; ⟨fd, ps, ⟨F.len, fun A outer s H args us vs Q E hr => F.run A outer s H args us vs Q E (hr.mono h)⟩, hb⟩, c.at_, c.fn, c.kp, c.fi⟩
structure OpsF (K : PySem.W.Frag) (C : Addr) (nm : String) (f fr : Addr) : Prop where
  b : BinF K C nm f
  r : RefF K C nm f fr
section
variable {X : Cx} {at_ : Addr → Nat} {E : SK} {CX : CXT} {j k : Nat} {C f fr : Addr} {F FR : FM} {c : Str} {pos : Pos} {a b : Expr} {m m2 : M Dat}
theorem q_own_add (B : OpsF X.K C "add" f fr) (hm : X.mg c = some (.ref C)) {k2 : Nat} (cm : CalM X.prog X.w X.K X.mg X.base CX k C (PySem.dunder "add") f (spF (Wx X at_) 0 2 F)) (cr : CalM X.prog X.w X.K X.mg X.base CX k2 C (PySem.dunderR "add") fr (spF (Wx X at_) 0 2 FR)) (hr : Room j X.A) (hk : max k k2 ≤ j) (hx : Passes CX X L2.E0) (h1 : PV X at_ E a m) (h2 : PV X at_ E b m2) :
    PV X at_ E (.BinOp a .Add b pos) (mOp (opOwn c F FR (fun _ _ => none)) m m2) := q_opOwn (r0 := fun _ _ _ _ => False) (op := .Add) rfl hm B.b B.r (cm.mono (Nat.le_max_left _ _)) (cr.mono (Nat.le_max_right _ _)) hr hk hx PySem.F.fills_int_add (fun hx hp Q' h => left_add hx hp Q' h) (fun _ _ _ _ _ _ _ _ _ _ _ _ h => h.elim) (fun _ _ _ _ _ _ _ h => by cases h) h1 h2
theorem q_own_sub (B : OpsF X.K C "sub" f fr) (hm : X.mg c = some (.ref C)) {k2 : Nat} (cm : CalM X.prog X.w X.K X.mg X.base CX k C (PySem.dunder "sub") f (spF (Wx X at_) 0 2 F)) (cr : CalM X.prog X.w X.K X.mg X.base CX k2 C (PySem.dunderR "sub") fr (spF (Wx X at_) 0 2 FR)) (hr : Room j X.A) (hk : max k k2 ≤ j) (hx : Passes CX X L2.E0) (h1 : PV X at_ E a m) (h2 : PV X at_ E b m2) :
    PV X at_ E (.BinOp a .Sub b pos) (mOp (opOwn c F FR (fun _ _ => none)) m m2) := q_opOwn (r0 := fun _ _ _ _ => False) (op := .Sub) rfl hm B.b B.r (cm.mono (Nat.le_max_left _ _)) (cr.mono (Nat.le_max_right _ _)) hr hk hx PySem.F.fills_int_sub (fun hx hp Q' h => left_sub hx hp Q' h) (fun _ _ _ _ _ _ _ _ _ _ _ _ h => h.elim) (fun _ _ _ _ _ _ _ h => by cases h) h1 h2
theorem q_own_mul (B : OpsF X.K C "mul" f fr) (hm : X.mg c = some (.ref C)) {k2 : Nat} (cm : CalM X.prog X.w X.K X.mg X.base CX k C (PySem.dunder "mul") f (spF (Wx X at_) 0 2 F)) (cr : CalM X.prog X.w X.K X.mg X.base CX k2 C (PySem.dunderR "mul") fr (spF (Wx X at_) 0 2 FR)) (hr : Room j X.A) (hk : max k k2 ≤ j) (hx : Passes CX X L2.E0) (h1 : PV X at_ E a m) (h2 : PV X at_ E b m2) :
    PV X at_ E (.BinOp a .Mult b pos) (mOp (opOwn c F FR (fun _ _ => none)) m m2) := q_opOwn (r0 := fun _ _ _ _ => False) (op := .Mult) rfl hm B.b B.r (cm.mono (Nat.le_max_left _ _)) (cr.mono (Nat.le_max_right _ _)) hr hk hx PySem.F.fills_int_mul (fun hx hp Q' h => left_mul hx hp Q' h) (fun _ _ _ _ _ _ _ _ _ _ _ _ h => h.elim) (fun _ _ _ _ _ _ _ h => by cases h) h1 h2
end
theorem v_par3 {X : Cx} {at_ : Addr → Nat} {E : SK} {i j l : Nat} {x y z : Str} {a b c : Expr} {px py pz pt pt2 pos : Pos} {kt k2 : Nat} {ml : M (List Dat)} (hc : X.calm = true) (hN : X.N.Nodup) (hi : X.N[i]? = some x) (hj : X.N[j]? = some y) (hl : X.N[l]? = some z) (h1 : i ≠ j) (h2 : i ≠ l) (h3 : j ≠ l)
    (hx : X.env.scope.names.lookup x = some .local) (hy : X.env.scope.names.lookup y = some .local) (hz : X.env.scope.names.lookup z = some .local) (h : PVA X at_ E [a, b, c] ml)
    (hw : swappedStores [.Tuple [.Name x px, .Name y py, .Name z pz] kt pt] (.Tuple [a, b, c] k2 pt2) X.env = pure (some [x, y, z])) :
    PVS X at_ E (.Assign [.Tuple [.Name x px, .Name y py, .Name z pz] kt pt] (.Tuple [a, b, c] k2 pt2) pos) (mPar3 i j l ml) := let ⟨_, p1, v1⟩ := h; ⟨_, ps_par3 hc hN hi hj hl h1 h2 h3 hx hy hz p1 hw, s_par3 v1⟩
/-! ### __init__ -/
section
variable {P : Program} {w : World} {K : PySem.W.Frag} {mg : Str → Option Value} {base : Heap} {at_ : Addr → Nat} {x qual c : Str} {params : Arguments} {body : List Stmt} {scope : Scope} {dvs : List V} {kws : List (Str × V)} {f : Addr} {fd : FuncData} {N ps : List Str} {k kk : Nat} {mb : M Fl}
theorem fnIm (F : FunD K x qual params body scope dvs kws f fd) (S : FnScope N ps scope) (hn : ps.length ≤ N.length)
    (hbody : ∀ (cdv : Value) (A : Around) (outer : List Env) (s : Shared) (H : Hp) (E : XK), Room k (A.deeper (envOfC qual scope s.heap.objs.size f cdv)) → PVB (cxOf (L2.CX P w) P w K mg base N qual scope f cdv A outer s H E) at_ (fun _ => E) body mb) :
    FnOk P w K mg base (L2.CX P w) (k + 1) f fd ps (spI ⟨K, mg, at_⟩ c ps.length (runI N.length c mb)) :=
  F.ok S (fun vs H Q E h => spI_len h) fun cdv A outer s H vs Q E hr h => let ⟨t, h1, h2⟩ := hbody cdv A outer s H E hr; ⟨t, h1, init_run h2 hn h⟩
end
end DL

set_option Elab.async false
set_option linter.all false
set_option maxRecDepth 100000
set_option maxHeartbeats 4000000
/-! D23: what of the text a class must have, as checks that the kernel runs. -/
namespace DL
open PySem PySem.Spec PyProof.Rows L2 GX
section
variable {K : PySem.W.Frag} {C : Addr}
def cmB (K : PySem.W.Frag) (C : Addr) (m : Str) : Bool := decide (PySem.W.findIn K (.ref C) m = some (some (.ref (He.ma K C m)))) && (PySem.W.isFn K (.ref (He.ma K C m)) && (PySem.W.keepIn K (.ref (He.ma K C m)) && PySem.W.fnIn K (He.ma K C m)))
theorem cm_ok {m : Str} (h : cmB K C m = true) : PySem.W.findIn K (.ref C) m = some (some (.ref (He.ma K C m))) ∧ PySem.W.isFn K (.ref (He.ma K C m)) = true ∧ PySem.W.keepIn K (.ref (He.ma K C m)) = true ∧ PySem.W.fnIn K (He.ma K C m) = true := by
  obtain ⟨h1, h2⟩ := He.ba h
  obtain ⟨h2, h3⟩ := He.ba h2
  obtain ⟨h3, h4⟩ := He.ba h3
  exact ⟨of_decide_eq_true h1, h2, h3, h4⟩
/-- a def of the class, told -/
theorem calM_of {P : Program} {w : World} {mg : Str → Option Value} {base : Heap} {CX : CXT} {k : Nat} {m : Str} {fd : FuncData} {ps : List Str} {sp : Sp} (h : cmB K C m = true) (F : FnOk P w K mg base CX k (He.ma K C m) fd ps sp) (hb : Binds K fd ps []) : CalM P w K mg base CX k C m (He.ma K C m) sp :=
  let ⟨h1, h2, h3, h4⟩ := cm_ok h; ⟨⟨fd, ps, F, hb⟩, h1, h2, h3, h4⟩
def rcB : Option (Option Value) → Bool
  | some none => true
  | some (some (.ref _)) => true
  | _ => false
theorem rc_ok {o : Option (Option Value)} (h : rcB o = true) : ∃ rc, o = some rc ∧ (rc = none ∨ ∃ g : Addr, rc = some (.ref g)) := by
  unfold rcB at h
  split at h
  · exact ⟨_, rfl, .inl rfl⟩
  · exact ⟨_, rfl, .inr ⟨_, rfl⟩⟩
  · cases h
def opsB (K : PySem.W.Frag) (C : Addr) (nm : String) : Bool := (PySem.W.selfFirst K C && (cmB K C (PySem.dunder nm) && cmB K C (PySem.dunderR nm))) && (((PySem.W.findIn K (.type "int") (PySem.dunder nm)).isSome && (PySem.W.findIn K (.type "int") (PySem.dunderR nm)).isSome) &&
  (decide (PySem.W.subIn K (.type "int") (.ref C) = some false) && decide (PySem.W.subIn K (.ref C) (.type "int") = some false)))
theorem ops_ok {nm : String} (h : opsB K C nm = true) : OpsF K C nm (He.ma K C (PySem.dunder nm)) (He.ma K C (PySem.dunderR nm)) := by
  obtain ⟨h1, h2⟩ := He.ba h
  obtain ⟨h1, h3⟩ := He.ba h1
  obtain ⟨h3, h4⟩ := He.ba h3
  obtain ⟨h5, h6⟩ := He.ba h2
  obtain ⟨h5, h7⟩ := He.ba h5
  obtain ⟨h6, h8⟩ := He.ba h6
  obtain ⟨a1, a2, _⟩ := cm_ok h3
  obtain ⟨b1, b2, _⟩ := cm_ok h4
  exact ⟨⟨h1, a1, a2, ⟨_, b1, .inr ⟨_, rfl⟩⟩, Option.isSome_iff_exists.mp h5, Option.isSome_iff_exists.mp h7, of_decide_eq_true h6⟩, ⟨h1, a1, b1, b2, of_decide_eq_true h8⟩⟩
def tyNames : List String := ["NoneType", "bool", "int", "str", "list", "tuple", "dict"]
/-- the kinds, where C is the one class of the program's objects -/
def isoKB (K : PySem.W.Frag) (C : Addr) : Bool := (tyNames.all fun t => decide (PySem.W.kitOne K (.type t) (.ref C) = some false)) && ((decide (PySem.W.specialIn K (.builtin "object.__class__") "__get__" = some (some (.builtin "getset_descriptor.__get__"))) && decide (PySem.W.takesIn K (.builtin "object.__class__") = some true)) &&
  ((decide (PySem.W.findIn K (.ref C) "__class__" = some (some (.builtin "object.__class__"))) && decide (PySem.W.mroIn K C (.type "object") = some true)) && decide (PySem.W.kitOne K (.ref C) (.ref C) = some true)))
theorem iso_ok {mg : Str → Option Value} {at_ : Addr → Nat} {cn : Str} (hc : mg cn = some (.ref C)) (cl : Cls K C) (h : isoKB K C = true) : IsoF ⟨K, mg, at_⟩ cn C [cn] := by
  obtain ⟨h1, h2⟩ := He.ba h
  obtain ⟨h2, h3⟩ := He.ba h2
  obtain ⟨h2, h4⟩ := He.ba h2
  obtain ⟨h3, h5⟩ := He.ba h3
  obtain ⟨h3, h6⟩ := He.ba h3
  refine ⟨hc, fun t ht => of_decide_eq_true (List.all_eq_true.mp h1 t ht), of_decide_eq_true h2, of_decide_eq_true h4, fun c' C' hm e => ?_⟩
  cases List.mem_singleton.mp hm
  cases hc.symm.trans e
  exact ⟨cl, of_decide_eq_true h3, of_decide_eq_true h6, by rw [decide_eq_true rfl]; exact of_decide_eq_true h5⟩
end
end DL

set_option Elab.async false
set_option linter.all false
set_option maxRecDepth 100000
set_option maxHeartbeats 4000000
/-! D24: a head's Hook with own checks and defs at any address (getters of properties, too). -/
namespace DL
open PySem PySem.Spec PyProof.Rows L2 GX
def obsY (xb : PySem.W.Frag → Bool) (fa : List He.Fa) (fn : List He5.DefA) (K : PySem.W.Frag) : He.AlD := (((fa.all fun f => f.ok K) && fn.all fun d => d.ok K) && (ksysB K && xb K), fn.map fun d => He5.fnA K (d.at_ K))
def valY (fn : List He5.DefA) : He.AlD := (true, fn.map He5.DefA.val)
def SaysY (xb : PySem.W.Frag → Bool) (fa : List He.Fa) (fn : List He5.DefA) (K : PySem.W.Frag) : Prop := obsY xb fa fn K = valY fn
def obsYG (n : Nat) (xb : PySem.W.Frag → Bool) (fa : List He.Fa) (fn : List He5.DefA) (g : Addr → Option Obj) : He.AlD := obsY xb fa fn (He.frG g (He.asD g n ++ [sysModules]))
def hookY (n : Nat) (xb : PySem.W.Frag → Bool) (fa : List He.Fa) (fn : List He5.DefA) : PySem.W.Hook where
  α := He.AlD
  obs := fun s => obsYG n xb fa fn s.heap.get?
  val := fun _ => valY fn
  says := fun _ h => ∃ K : PySem.W.Frag, K.In h ∧ SaysY xb fa fn K
  of := fun _ _ e => ⟨_, He.frG_in, e⟩
  keeps := fun _ _ _ ⟨K, hK, c⟩ k => ⟨K, PySem.W.Frag.In.keeps hK k, c⟩
theorem obsYG_eq {n : Nat} {xb : PySem.W.Frag → Bool} {fa : List He.Fa} {fn : List He5.DefA} {g : Addr → Option Obj} {s : Shared} (h : ∀ a, g a = s.heap.get? a) : obsYG n xb fa fn g = (hookY n xb fa fn).obs s := by
  rw [show g = s.heap.get? from funext h]
  rfl
section
variable {xb : PySem.W.Frag → Bool} {fa : List He.Fa} {fn : List He5.DefA} {K : PySem.W.Frag}
theorem SaysY.checks (c : SaysY xb fa fn K) : ((fa.all fun f => f.ok K) = true ∧ (fn.all fun d => d.ok K) = true) ∧ ksysB K = true ∧ xb K = true :=
  let h := He.ba (show (((fa.all fun f => f.ok K) && fn.all fun d => d.ok K) && (ksysB K && xb K)) = true from congrArg (fun z : He.AlD => z.1) c); ⟨He.ba h.1, He.ba h.2⟩
theorem SaysY.fact (c : SaysY xb fa fn K) {f : He.Fa} (h : f ∈ fa) : f.ok K = true := List.all_eq_true.mp c.checks.1.1 f h
theorem SaysY.def_ (c : SaysY xb fa fn K) (i : Nat) {d : He5.DefA} (h : fn[i]? = some d := by rfl) : ∃ fd, L2.FunD K d.name d.qual d.params d.body d.scope (d.dvs K) (d.kws K) (d.at_ K) fd := by
  have e := congrArg (fun l : List He.FnW => l[i]?) (show (fn.map fun d => He5.fnA K (d.at_ K)) = fn.map He5.DefA.val from congrArg (fun z : He.AlD => z.2) c)
  simp only [List.getElem?_map, h, Option.map_some, Option.some.injEq] at e
  exact He5.DefA.funD e (List.all_eq_true.mp c.checks.1.2 d (List.mem_of_getElem? h))
end
/-! ### properties -/
/-- the property's object, its getter -/
def pO (K : PySem.W.Frag) (C : Addr) (f : Str) : Addr := He.ma K C f
def pG (K : PySem.W.Frag) (C : Addr) (f : Str) : Addr := match PySem.W.recIn K (pO K C f) "property" with
  | some (.ref g :: _) => g
  | _ => 0
def propB (K : PySem.W.Frag) (C : Addr) (f : Str) : Bool := (decide (PySem.W.findIn K (.ref C) f = some (some (.ref (pO K C f)))) && decide (PySem.W.specialIn K (.ref (pO K C f)) "__get__" = some (some (.builtin "property.__get__")))) && (decide (PySem.W.takesIn K (.ref (pO K C f)) = some true) &&
  (match PySem.W.recIn K (pO K C f) "property" with
    | some (.ref g :: _) => decide (g = pG K C f)
    | _ => false))
theorem prop_ok {K : PySem.W.Frag} {C : Addr} {f : Str} (h : propB K C f = true) : PropOf K C f (pO K C f) (pG K C f) := by
  obtain ⟨h1, h2⟩ := He.ba h
  obtain ⟨h1, h3⟩ := He.ba h1
  obtain ⟨h2, h4⟩ := He.ba h2
  refine ⟨of_decide_eq_true h1, of_decide_eq_true h3, of_decide_eq_true h2, ?_⟩
  split at h4
  · rename_i g rest e
    exact ⟨rest, by rw [e, of_decide_eq_true h4]⟩
  · cases h4
end DL

set_option Elab.async false
set_option linter.all false
set_option maxRecDepth 100000
set_option maxHeartbeats 4000000
namespace K04
open PySem PySem.Spec PyProof.Rows L2 GX DL
def top (i : Nat) : Stmt := PySem.Challenge.pw_dialsums_k04_whole_sums_reckoned.main.body.getD i (.Pass ⟨0, 0, 0, 0⟩)
abbrev FnP (K : PySem.W.Frag) (x : Str) (st : Stmt) (f : Addr) (fd : FuncData) : Prop := FunD K x x (defArgs st) (defBody st) (defScope st) [] [] f fd
section
variable {P : Program} {w : World} {K : PySem.W.Frag} {mg : Str → Option Value} {base : Heap} {at_ : Addr → Nat} {f : Addr} {fd : FuncData}
abbrev s_is_integer : Stmt := top 3
abbrev N_is_integer : List Str := ["value"]
abbrev p_is_integer : List Str := ["value"]
theorem sc_is_integer : FnScope N_is_integer p_is_integer (defScope s_is_integer) := ⟨rfl, rfl, rfl, by decide +kernel, rfl, by decide +kernel, by decide +kernel⟩
def m_is_integer : M Fl := (mRet (mAndV (mIsi (fun d => (tyName d).bind fun t => kitB t "int") (mVar 0)) (mNotV (mIsi (fun d => (tyName d).bind fun t => kitB t "bool") (mVar 0)))))
abbrev F_is_integer : FM := runF 0 1 m_is_integer
theorem ok_is_integer (F : FnP K "is_integer" s_is_integer f fd) (nb : NB mg)   : FnOk P w K mg base CX0 1 f fd p_is_integer (spF ⟨K, mg, at_⟩ 0 1 F_is_integer) :=
  fnOm F sc_is_integer (by decide) fun cdv A outer s H E hr => (b_one (v_ret (q_and (q_isi (isi_ty "int") nb.isinstance (q_var (pv 0)) (pe_ty nb.int bt_int)) (q_one (q_not (q_isi (isi_ty "bool") nb.isinstance (q_var (pv 0)) (pe_ty nb.bool bt_bool)))))))
abbrev s_is_name : Stmt := top 5
abbrev N_is_name : List Str := ["value"]
abbrev p_is_name : List Str := ["value"]
theorem sc_is_name : FnScope N_is_name p_is_name (defScope s_is_name) := ⟨rfl, rfl, rfl, by decide +kernel, rfl, by decide +kernel, by decide +kernel⟩
def m_is_name : M Fl := (mSeq (mIf (mOrT (mNotT (mTest (mIsi (fun d => (tyName d).bind fun t => kitB t "str") (mVar 0)))) (mTest (mOp gtF (mFn lenF (mCons (mVar 0) mNil)) (mC (.int 8))))) (mRet (mC (.bl false))) mNext)
  (mRet (mAndV (mMethS0 isasciiF (mVar 0)) (mAndV (mMethS0 isalphaF (mVar 0)) (mMethS0 islowerF (mVar 0))))))
abbrev F_is_name : FM := runF 0 1 m_is_name
theorem ok_is_name (F : FnP K "is_name" s_is_name f fd) (nb : NB mg)   : FnOk P w K mg base CX0 1 f fd p_is_name (spF ⟨K, mg, at_⟩ 0 1 F_is_name) :=
  fnOm F sc_is_name (by decide) fun cdv A outer s H E hr => (b_cons (v_if (t_w (w_or (t_not (t_val (q_isi (isi_ty "str") nb.isinstance (q_var (pv 0)) (pe_ty nb.str bt_str)))) (w_or1 (t_cmp op_gt r_gt (q_callB call_len r_len nb.len bt_len (a_cons (q_var (pv 0)) a_nil)) q_int (nomark _))))) (b_one (v_ret q_bl)) b_nil)
  (b_one (v_ret (q_and (q_meth0 r_isascii PySem.F.slot_str_isascii PySem.F.type_str_isascii mt_isascii (q_var (pv 0))) (q_and (q_meth0 r_isalpha PySem.F.slot_str_isalpha PySem.F.type_str_isalpha mt_isalpha (q_var (pv 0))) (q_one (q_meth0 r_islower PySem.F.slot_str_islower PySem.F.type_str_islower mt_islower (q_var (pv 0)))))))))
abbrev s_is_ascending : Stmt := top 8
abbrev N_is_ascending : List Str := ["members", "low", "high"]
abbrev p_is_ascending : List Str := ["members"]
theorem sc_is_ascending : FnScope N_is_ascending p_is_ascending (defScope s_is_ascending) := ⟨rfl, rfl, rfl, by decide +kernel, rfl, by decide +kernel, by decide +kernel⟩
def m_is_ascending : M Fl := (mSeq (mFor (mItA zipO (mCons (mVar 0) (mCons (mSlice (mVar 0) (mPart (mC (.int 1))) (ret none)) mNil))) (tupT 2 (consT (setD 1) (consT (setD 2) nilT))) (mIf (mTest (mOp geF (mVar 1) (mVar 2))) (mRet (mC (.bl false))) mNext))
  (mRet (mC (.bl true))))
abbrev F_is_ascending : FM := runF 0 3 m_is_ascending
theorem ok_is_ascending (F : FnP K "is_ascending" s_is_ascending f fd) (nb : NB mg)   : FnOk P w K mg base CX0 1 f fd p_is_ascending (spF ⟨K, mg, at_⟩ 0 1 F_is_ascending) :=
  fnOm F sc_is_ascending (by decide) fun cdv A outer s H E hr => (b_cons (v_for PassesOwn.never rfl (vi_zip rfl nb.zip (a_cons (q_var (pv 0)) (a_cons (q_slice (q_var (pv 0)) (o_some q_int) o_none) a_nil))) (vg_tup rfl (vg_cons (vg_name (i := 1) sc_is_ascending.nd rfl (Or.inl rfl)) (vg_cons (vg_name (i := 2) sc_is_ascending.nd rfl (Or.inl rfl)) vg_nil))) (b_one (v_if (t_cmp op_geZ r_ge (q_var (pv 1)) (q_var (pv 2)) (nomark _)) (b_one (v_ret q_bl)) b_nil)))
  (b_one (v_ret q_bl)))
abbrev s_is_part : Stmt := top 20
abbrev N_is_part : List Str := ["value"]
abbrev p_is_part : List Str := ["value"]
theorem sc_is_part : FnScope N_is_part p_is_part (defScope s_is_part) := ⟨rfl, rfl, rfl, by decide +kernel, rfl, by decide +kernel, by decide +kernel⟩
def m_is_part : M Fl := (mSeq (mIf (mOrT (mNotT (mTest (mIsi (fun d => (tyName d).bind fun t => kitB t "tuple") (mVar 0)))) (mTest (mOp neF (mFn lenF (mCons (mVar 0) mNil)) (mC (.int 2))))) (mRet (mC (.bl false))) mNext)
  (mRet (mAndV (mCall [] (okF F_is_name) [] (mCons (mOp ixF (mVar 0) (mC (.int 0))) mNil)) (mAndV (mCall [] (okF F_is_integer) [] (mCons (mOp ixF (mVar 0) (mC (.int 1))) mNil)) (mOp neF (mOp ixF (mVar 0) (mC (.int 1))) (mC (.int 0)))))))
abbrev F_is_part : FM := runF 0 1 m_is_part
theorem ok_is_part (F : FnP K "_is_part" s_is_part f fd) (nb : NB mg) (c_is_name : CalO P w K mg base CX0 1 "is_name" (spF ⟨K, mg, at_⟩ 0 1 F_is_name)) (c_is_integer : CalO P w K mg base CX0 1 "is_integer" (spF ⟨K, mg, at_⟩ 0 1 F_is_integer)) (KY : KSys K) : FnOk P w K mg base CX0 2 f fd p_is_part (spF ⟨K, mg, at_⟩ 0 1 F_is_part) :=
  fnOm F sc_is_part (by decide) fun cdv A outer s H E hr => (b_cons (v_if (t_w (w_or (t_not (t_val (q_isi (isi_ty "tuple") nb.isinstance (q_var (pv 0)) (pe_ty nb.tuple bt_tuple)))) (w_or1 (t_cmp (op_neX KY hr.u64) r_ne (q_callB call_len r_len nb.len bt_len (a_cons (q_var (pv 0)) a_nil)) q_int (nomark _))))) (b_one (v_ret q_bl)) b_nil)
  (b_one (v_ret (q_and (q_cO0 c_is_name hr (by omega) pass0 (by decide) rfl (c_nil (a_cons (q_op_ix (q_var (pv 0)) q_int) a_nil) (len_cons len_nil)) rfl) (q_and (q_cO0 c_is_integer hr (by omega) pass0 (by decide) rfl (c_nil (a_cons (q_op_ix (q_var (pv 0)) q_int) a_nil) (len_cons len_nil)) rfl) (q_one (q_cmp (op_neX KY hr.u64) r_ne (q_op_ix (q_var (pv 0)) q_int) q_int (nomark _))))))))
abbrev s_are_parts : Stmt := top 19
abbrev N_are_parts : List Str := ["value", "part"]
abbrev p_are_parts : List Str := ["value"]
theorem sc_are_parts : FnScope N_are_parts p_are_parts (defScope s_are_parts) := ⟨rfl, rfl, rfl, by decide +kernel, rfl, by decide +kernel, by decide +kernel⟩
def m_are_parts : M Fl := (mSeq (mIf (mNotT (mTest (mIsi (fun d => (tyName d).bind fun t => kitB t "tuple") (mVar 0)))) (mRet (mC (.bl false))) mNext)
  (mSeq (mFor (mSeqO seqD (mVar 0)) (setD 1) (mIf (mNotT (mTest (mCall [] (okF F_is_part) [] (mCons (mVar 1) mNil)))) (mRet (mC (.bl false))) mNext))
  (mRet (mCall [] (okF F_is_ascending) [] (mCons (mLc [1] (mSeqO seqD (mVar 0)) (setD 1) (ret true) (mOp ixF (mVar 1) (mC (.int 0)))) mNil)))))
abbrev F_are_parts : FM := runF 0 2 m_are_parts
theorem ok_are_parts (F : FnP K "_are_parts" s_are_parts f fd) (nb : NB mg) (c_is_ascending : CalO P w K mg base CX0 1 "is_ascending" (spF ⟨K, mg, at_⟩ 0 1 F_is_ascending)) (c__is_part : CalO P w K mg base CX0 2 "_is_part" (spF ⟨K, mg, at_⟩ 0 1 F_is_part))  : FnOk P w K mg base CX0 3 f fd p_are_parts (spF ⟨K, mg, at_⟩ 0 1 F_are_parts) :=
  fnOm F sc_are_parts (by decide) fun cdv A outer s H E hr => (b_cons (v_if (t_not (t_val (q_isi (isi_ty "tuple") nb.isinstance (q_var (pv 0)) (pe_ty nb.tuple bt_tuple)))) (b_one (v_ret q_bl)) b_nil)
  (b_cons (v_for PassesOwn.never rfl (vi_any (q_var (pv 0))) (vg_name (i := 1) sc_are_parts.nd rfl (Or.inl rfl)) (b_one (v_if (t_not (t_val (q_cO0 c__is_part hr (by omega) pass0 (by decide) rfl (c_nil (a_cons (q_var (pv 1)) a_nil) (len_cons len_nil)) rfl))) (b_one (v_ret q_bl)) b_nil)))
  (b_one (v_ret (q_cO0 c_is_ascending hr (by omega) pass0 (by decide) rfl (c_nil (a_cons (q_lc rfl sc_are_parts.nd (own := [("part", 1)]) (vi_any (q_var (pv 0))) (blkOk_by (N := N_are_parts) (sc := defScope s_are_parts) (by decide +kernel)) (fun _ _ _ _ _ => pg_name (i := 1) sc_are_parts.nd rfl (Or.inl rfl)) (gw_name (by decide)) (fun _ _ _ _ _ => ts_nil) (fun _ _ _ _ _ => (q_op_ix (q_var (pv 1)) q_int))) a_nil) (len_cons len_nil)) rfl)))))
abbrev s_law_pot : Stmt := top 29
abbrev N_law_pot : List Str := ["_law_script", "_law_k", "_law_cell", "_law_own", "_law_small"]
abbrev p_law_pot : List Str := ["_law_script", "_law_k"]
theorem sc_law_pot : FnScope N_law_pot p_law_pot (defScope s_law_pot) := ⟨rfl, rfl, rfl, by decide +kernel, rfl, by decide +kernel, by decide +kernel⟩
def m_law_pot : M MO := (mSeqN (mSet 2 (mIf (mTest (mOp ltF (mVar 1) (mFn lenF (mCons (mVar 0) mNil)))) (mOp ixF (mVar 0) (mVar 1)) (mOp addF (mOp mulF (mC (.int 81)) (mVar 1)) (mC (.int 43)))))
  (mSeqN (mSet 3 (mOp mulF (mOp modF (mFn intOfF (mCons (mFn absF (mCons (mVar 2) mNil)) mNil)) (mOp powF (mOp powF (mC (.int 10)) (mC (.int 60))) (mC (.int 5)))) (mFn intOfF (mCons (mOp geF (mFn absF (mCons (mVar 2) mNil)) (mOp powF (mC (.int 10)) (mC (.int 18)))) mNil))))
  (mSeqN (mSet 4 (mOp modF (mFn intOfF (mCons (mVar 2) mNil)) (mC (.int 2305843009213693951))))
  (mLstN (mCons (mVar 3) (mCons (mOp modF (mFn intOfF (mCons (mOp addF (mOp addF (mOp mulF (mVar 4) (mC (.int 76263))) (mOp mulF (mOp mulF (mC (.int 8219)) (mVar 1)) (mVar 1))) (mC (.int 101))) mNil)) (mC (.int 2305843009213693921))) (mCons (mC (.int 0)) mNil)))))))
abbrev F_law_pot : FN := runN 5 m_law_pot
theorem ok_law_pot (F : FnP K "_law_pot" s_law_pot f fd) (nb : NB mg)   : FnG P w K mg base CX0 1 f fd p_law_pot (spN ⟨K, mg, at_⟩ 2 F_law_pot) :=
  fnGn F sc_law_pot fun cdv A outer s H E hr => (bn_cons (v_set (i := 2) sc_law_pot.nd rfl (Or.inl rfl) (q_if (t_cmp op_lt r_lt (q_var (pv 1)) (q_callB call_len r_len nb.len bt_len (a_cons (q_var (pv 0)) a_nil)) (nomark _)) (q_op_ix (q_var (pv 0)) (q_var (pv 1))) (q_opF op_addZ r_add (q_op op_mulW r_mul q_int (q_var (pv 1))) q_int)))
  (bn_cons (v_set (i := 3) sc_law_pot.nd rfl (Or.inl rfl) (q_op op_mulW r_mul (q_op op_mod r_mod (q_callTy call_int1 r_int nb.int bt_int (a_cons (q_callB call_abs r_abs nb.abs bt_abs (a_cons (q_var (pv 2)) a_nil)) a_nil)) (q_op op_powA r_pow (q_op op_powA r_pow q_int q_int) q_int)) (q_callTy call_int1 r_int nb.int bt_int (a_cons (q_cmp op_geZ r_ge (q_callB call_abs r_abs nb.abs bt_abs (a_cons (q_var (pv 2)) a_nil)) (q_op op_powA r_pow q_int q_int) (nomark _)) a_nil))))
  (bn_cons (v_set (i := 4) sc_law_pot.nd rfl (Or.inl rfl) (q_op op_mod r_mod (q_callTy call_int1 r_int nb.int bt_int (a_cons (q_var (pv 2)) a_nil)) q_int))
  (bn_ret (n_lst (a_cons (q_var (pv 3)) (a_cons (q_op op_mod r_mod (q_callTy call_int1 r_int nb.int bt_int (a_cons (q_opF op_addZ r_add (q_opF op_addZ r_add (q_op op_mulW r_mul (q_var (pv 4)) q_int) (q_op op_mulW r_mul (q_op op_mulW r_mul q_int (q_var (pv 1))) (q_var (pv 1)))) q_int) a_nil)) q_int) (a_cons q_int a_nil))))))))
abbrev s_law_take : Stmt := top 30
abbrev N_law_take : List Str := ["_law_pot_here", "_law_upto", "_law_digit", "_law_prime", "_law_blend"]
abbrev p_law_take : List Str := ["_law_pot_here", "_law_upto"]
theorem sc_law_take : FnScope N_law_take p_law_take (defScope s_law_take) := ⟨rfl, rfl, rfl, by decide +kernel, rfl, by decide +kernel, by decide +kernel⟩
def m_law_take : M Fl := (mSeq (mIf (mTest (mOp gtF (mIxM 0 (mC (.int 0))) (mC (.int 0)))) (mSeq (mSet 2 (mOp modF (mFn intOfF (mCons (mIxM 0 (mC (.int 0))) mNil)) (mVar 1)))
  (mSeq (mSetIx 0 (mC (.int 0)) (mOp fdivF (mIxM 0 (mC (.int 0))) (mVar 1)))
  (mRet (mVar 2)))) mNext)
  (mSeq (mSetIx 0 (mC (.int 2)) (mOp addF (mIxM 0 (mC (.int 2))) (mC (.int 1))))
  (mSeq (mSet 3 (mOp ixF (mLst (mCons (mC (.int 2147483647)) (mCons (mC (.int 2147483629)) (mCons (mC (.int 2147483587)) (mCons (mC (.int 2147483579)) (mCons (mC (.int 2147483563)) mNil)))))) (mOp modF (mFn intOfF (mCons (mIxM 0 (mC (.int 2))) mNil)) (mC (.int 5)))))
  (mSeq (mSet 4 (mOp modF (mFn intOfF (mCons (mOp powF (mFn intOfF (mCons (mOp addF (mOp addF (mIxM 0 (mC (.int 1))) (mOp mulF (mOp mulF (mC (.int 91043)) (mIxM 0 (mC (.int 2)))) (mIxM 0 (mC (.int 2))))) (mC (.int 77))) mNil)) (mC (.int 3))) mNil)) (mVar 3)))
  (mRet (mOp modF (mFn intOfF (mCons (mOp fdivF (mOp mulF (mVar 4) (mOp addF (mOp modF (mFn intOfF (mCons (mVar 4) mNil)) (mC (.int 10007))) (mOp mulF (mC (.int 97)) (mIxM 0 (mC (.int 2)))))) (mC (.int 127))) mNil)) (mVar 1)))))))
abbrev F_law_take : FM := runF 1 5 m_law_take
theorem ok_law_take (F : FnP K "_law_take" s_law_take f fd) (nb : NB mg)   : FnG P w K mg base CX0 1 f fd p_law_take (spF ⟨K, mg, at_⟩ 1 2 F_law_take) :=
  fnGm F sc_law_take (by decide) fun cdv A outer s H E hr => (b_cons (v_if (t_cmp op_gt r_gt (q_ixM (pv 0) q_int) q_int (nomark _)) (b_cons (v_set (i := 2) sc_law_take.nd rfl (Or.inl rfl) (q_op op_mod r_mod (q_callTy call_int1 r_int nb.int bt_int (a_cons (q_ixM (pv 0) q_int) a_nil)) (q_var (pv 1))))
  (b_cons (v_setIx (pv 0) q_int (q_op op_fdivW r_fdiv (q_ixM (pv 0) q_int) (q_var (pv 1))))
  (b_one (v_ret (q_var (pv 2)))))) b_nil)
  (b_cons (v_setIx (pv 0) q_int (q_opF op_addZ r_add (q_ixM (pv 0) q_int) q_int))
  (b_cons (v_set (i := 3) sc_law_take.nd rfl (Or.inl rfl) (q_op_ix (q_lst (a_cons q_int (a_cons q_int (a_cons q_int (a_cons q_int (a_cons q_int a_nil)))))) (q_op op_mod r_mod (q_callTy call_int1 r_int nb.int bt_int (a_cons (q_ixM (pv 0) q_int) a_nil)) q_int)))
  (b_cons (v_set (i := 4) sc_law_take.nd rfl (Or.inl rfl) (q_op op_mod r_mod (q_callTy call_int1 r_int nb.int bt_int (a_cons (q_op op_powA r_pow (q_callTy call_int1 r_int nb.int bt_int (a_cons (q_opF op_addZ r_add (q_opF op_addZ r_add (q_ixM (pv 0) q_int) (q_op op_mulW r_mul (q_op op_mulW r_mul q_int (q_ixM (pv 0) q_int)) (q_ixM (pv 0) q_int))) q_int) a_nil)) q_int) a_nil)) (q_var (pv 3))))
  (b_one (v_ret (q_op op_mod r_mod (q_callTy call_int1 r_int nb.int bt_int (a_cons (q_op op_fdivW r_fdiv (q_op op_mulW r_mul (q_var (pv 4)) (q_opF op_addZ r_add (q_op op_mod r_mod (q_callTy call_int1 r_int nb.int bt_int (a_cons (q_var (pv 4)) a_nil)) q_int) (q_op op_mulW r_mul q_int (q_ixM (pv 0) q_int)))) q_int) a_nil)) (q_var (pv 1)))))))))
abbrev s_law_of : Stmt := top 31
abbrev N_law_of : List Str := ["_law_pot_here", "_law_some_here"]
abbrev p_law_of : List Str := ["_law_pot_here", "_law_some_here"]
theorem sc_law_of : FnScope N_law_of p_law_of (defScope s_law_of) := ⟨rfl, rfl, rfl, by decide +kernel, rfl, by decide +kernel, by decide +kernel⟩
def m_law_of : M Fl := (mRet (mOp ixF (mVar 1) (mCall [0] (okF F_law_take) [] (mCons (mFn lenF (mCons (mVar 1) mNil)) mNil))))
abbrev F_law_of : FM := runF 1 2 m_law_of
theorem ok_law_of (F : FnP K "_law_of" s_law_of f fd) (nb : NB mg) (c__law_take : CalG P w K mg base CX0 1 "_law_take" (spF ⟨K, mg, at_⟩ 1 2 F_law_take))  : FnG P w K mg base CX0 2 f fd p_law_of (spF ⟨K, mg, at_⟩ 1 2 F_law_of) :=
  fnGm F sc_law_of (by decide) fun cdv A outer s H E hr => (b_one (v_ret (q_op_ix (q_var (pv 1)) (q_cG0 c__law_take hr (by omega) pass0 (by decide) rfl (c_cons (pv 0) (c_nil (a_cons (q_callB call_len r_len nb.len bt_len (a_cons (q_var (pv 1)) a_nil)) a_nil) (len_cons len_nil))) rfl))))
abbrev s_law_some : Stmt := top 32
abbrev N_law_some : List Str := ["_law_pot_here", "_law_pool", "_law_many_here", "_law_left", "_law_found", "_law_turn"]
abbrev p_law_some : List Str := ["_law_pot_here", "_law_pool", "_law_many_here"]
theorem sc_law_some : FnScope N_law_some p_law_some (defScope s_law_some) := ⟨rfl, rfl, rfl, by decide +kernel, rfl, by decide +kernel, by decide +kernel⟩
def m_law_some : M Fl := (mSeq (mPar2N 3 4 (mFnN listN (mCons (mVar 1) mNil)) (mLstN mNil))
  (mSeq (mFor (mItA rg1O (mCons (mVar 2) mNil)) (setD 5) (mDrop (mAppend 4 (mPopAt 3 (mCall [0] (okF F_law_take) [] (mCons (mLenM 3) mNil))))))
  (mRet (mFz 4))))
abbrev F_law_some : FM := runF 1 6 m_law_some
theorem ok_law_some (F : FnP K "_law_some" s_law_some f fd) (nb : NB mg) (c__law_take : CalG P w K mg base CX0 1 "_law_take" (spF ⟨K, mg, at_⟩ 1 2 F_law_take))  : FnG P w K mg base CX0 2 f fd p_law_some (spF ⟨K, mg, at_⟩ 1 3 F_law_some) :=
  fnGm F sc_law_some (by decide) fun cdv A outer s H E hr => (b_cons (v_par2N (i := 3) (j := 4) rfl sc_law_some.nd rfl rfl (by decide) rfl rfl (n_callTy (call_listZ rfl) rn_list nb.list bt_list (a_cons (q_var (pv 1)) a_nil)) (n_lst a_nil) (by with_unfolding_all rfl))
  (b_cons (v_for PassesOwn.never rfl (vi_rng1 rfl nb.range (a_cons (q_var (pv 2)) a_nil)) (vg_name (i := 5) sc_law_some.nd rfl (Or.inl rfl)) (b_one (v_expr (q_append (pv 4) (q_popAt (pv 3) (q_cG0 c__law_take hr (by omega) pass0 (by decide) rfl (c_cons (pv 0) (c_nil (a_cons (q_lenM nb.len (pv 3)) a_nil) (len_cons len_nil))) rfl))))))
  (b_one (v_ret (q_fz (pv 4))))))
abbrev s_law_names : Stmt := top 33
abbrev N_law_names : List Str := ["_law_pot_here", "_law_many_here", "_law_pool"]
abbrev p_law_names : List Str := ["_law_pot_here", "_law_many_here"]
theorem sc_law_names : FnScope N_law_names p_law_names (defScope s_law_names) := ⟨rfl, rfl, rfl, by decide +kernel, rfl, by decide +kernel, by decide +kernel⟩
def m_law_names : M Fl := (mSeq (mSet 2 (mLst (mCons (mC (.str "x")) (mCons (mC (.str "r")) (mCons (mC (.str "a")) (mCons (mC (.str "b")) (mCons (mC (.str "own")) (mCons (mC (.str "draw")) (mCons (mC (.str "sum")) (mCons (mC (.str "hand")) (mCons (mC (.str "call")) (mCons (mC (.str "burn")) (mCons (mC (.str "people")) (mCons (mC (.str "zzzzzzzz")) (mCons (mC (.str "round")) (mCons (mC (.str "next")) mNil))))))))))))))))
  (mRet (mCall [0] (okF F_law_some) [] (mCons (mVar 2) (mCons (mVar 1) mNil)))))
abbrev F_law_names : FM := runF 1 3 m_law_names
theorem ok_law_names (F : FnP K "_law_names" s_law_names f fd) (nb : NB mg) (c__law_some : CalG P w K mg base CX0 2 "_law_some" (spF ⟨K, mg, at_⟩ 1 3 F_law_some))  : FnG P w K mg base CX0 3 f fd p_law_names (spF ⟨K, mg, at_⟩ 1 2 F_law_names) :=
  fnGm F sc_law_names (by decide) fun cdv A outer s H E hr => (b_cons (v_set (i := 2) sc_law_names.nd rfl (Or.inl rfl) (q_lst (a_cons q_str (a_cons q_str (a_cons q_str (a_cons q_str (a_cons q_str (a_cons q_str (a_cons q_str (a_cons q_str (a_cons q_str (a_cons q_str (a_cons q_str (a_cons q_str (a_cons q_str (a_cons q_str a_nil))))))))))))))))
  (b_one (v_ret (q_cG0 c__law_some hr (by omega) pass0 (by decide) rfl (c_cons (pv 0) (c_nil (a_cons (q_var (pv 2)) (a_cons (q_var (pv 1)) a_nil)) (len_cons (len_cons len_nil)))) rfl))))
abbrev s_law_places : Stmt := top 34
abbrev N_law_places : List Str := ["_law_script", "_law_most"]
abbrev p_law_places : List Str := ["_law_script", "_law_most"]
theorem sc_law_places : FnScope N_law_places p_law_places (defScope s_law_places) := ⟨rfl, rfl, rfl, by decide +kernel, rfl, by decide +kernel, by decide +kernel⟩
def m_law_places : M Fl := (mRet (mFn rgLF (mCons (mFn max2F (mCons (mC (.int 1)) (mCons (mFn min2F (mCons (mVar 1) (mCons (mFn lenF (mCons (mVar 0) mNil)) mNil))) mNil))) mNil)))
abbrev F_law_places : FM := runF 0 2 m_law_places
theorem ok_law_places (F : FnP K "_law_places" s_law_places f fd) (nb : NB mg)   : FnG P w K mg base CX0 1 f fd p_law_places (spF ⟨K, mg, at_⟩ 0 2 F_law_places) :=
  fnGm F sc_law_places (by decide) fun cdv A outer s H E hr => (b_one (v_ret (q_listRg nb.list nb.range (q_callB (call_max2 rfl) r_max2 nb.max bt_max (a_cons q_int (a_cons (q_callB (call_min2 rfl) r_min2 nb.min bt_min (a_cons (q_var (pv 1)) (a_cons (q_callB call_len r_len nb.len bt_len (a_cons (q_var (pv 0)) a_nil)) a_nil))) a_nil))))))
abbrev s_law_sum : Stmt := top 35
abbrev N_law_sum : List Str := ["_law_pairs", "_law_number", "_law_table", "_law_name", "_law_many_here"]
abbrev p_law_sum : List Str := ["_law_pairs", "_law_number"]
theorem sc_law_sum : FnScope N_law_sum p_law_sum (defScope s_law_sum) := ⟨rfl, rfl, rfl, by decide +kernel, rfl, by decide +kernel, by decide +kernel⟩
def m_law_sum : M Fl := (mSeq (mOwn 2 mDic0)
  (mSeq (mFor (mSeqO seqD (mVar 0)) (tupT 2 (consT (setD 3) (consT (setD 4) nilT))) (mPutM 2 (mVar 3) (mOp addF (mGetM 2 (mVar 3) (mC (.int 0))) (mVar 4))))
  (mRet (mTup (mCons (mFn tupF (mCons (mLc [3] (mSeqO seqD (mUn sortSetF (mFn listF (mCons (mFz 2) mNil)))) (setD 3) (mTest (mOp neF (mIxD (mFz 2) (mVar 3)) (mC (.int 0)))) (mTup (mCons (mVar 3) (mCons (mIxD (mFz 2) (mVar 3)) mNil)))) mNil)) (mCons (mVar 1) mNil))))))
abbrev F_law_sum : FM := runF 0 5 m_law_sum
theorem ok_law_sum (F : FnP K "_law_sum" s_law_sum f fd) (nb : NB mg)  (KY : KSys K) : FnG P w K mg base CX0 1 f fd p_law_sum (spF ⟨K, mg, at_⟩ 0 2 F_law_sum) :=
  fnGm F sc_law_sum (by decide) fun cdv A outer s H E hr => (b_cons (v_own (i := 2) sc_law_sum.nd rfl (Or.inr rfl) n_dic0)
  (b_cons (v_for PassesOwn.never rfl (vi_any (q_var (pv 0))) (vg_tup rfl (vg_cons (vg_name (i := 3) sc_law_sum.nd rfl (Or.inl rfl)) (vg_cons (vg_name (i := 4) sc_law_sum.nd rfl (Or.inl rfl)) vg_nil))) (b_one (v_put hr.u1 (pv 2) (q_var (pv 3)) (q_opF op_addZ r_add (q_getM hr.u1 (pv 2) (q_var (pv 3)) q_int) (q_var (pv 4))))))
  (b_one (v_ret (q_tup (a_cons (q_callTy call_tupS r_tuple nb.tuple bt_tuple (a_cons (q_lc rfl sc_law_sum.nd (own := [("_law_name", 3)]) (vi_any (q_sortSet rfl nb.sorted rfl nb.set (q_callTyF (call_listZ rfl) r_list nb.list bt_list (a_cons (q_fz (pv 2)) a_nil)))) (blkOk_by (N := N_law_sum) (sc := defScope s_law_sum) (by decide +kernel)) (fun _ _ _ _ _ => pg_name (i := 3) sc_law_sum.nd rfl (Or.inl rfl)) (gw_name (by decide)) (fun _ _ _ _ _ => (ts_one (t_cmp (op_neX KY hr.u64) r_ne (q_ixD hr.u1 (q_fz (pv 2)) (q_var (pv 3))) q_int (nomark _)))) (fun _ _ _ _ _ => (q_tup (a_cons (q_var (pv 3)) (a_cons (q_ixD hr.u1 (q_fz (pv 2)) (q_var (pv 3))) a_nil))))) a_nil)) (a_cons (q_var (pv 1)) a_nil)))))))
abbrev s_law_plus : Stmt := top 36
abbrev N_law_plus : List Str := ["_law_one", "_law_other"]
abbrev p_law_plus : List Str := ["_law_one", "_law_other"]
theorem sc_law_plus : FnScope N_law_plus p_law_plus (defScope s_law_plus) := ⟨rfl, rfl, rfl, by decide +kernel, rfl, by decide +kernel, by decide +kernel⟩
def m_law_plus : M Fl := (mRet (mCall [] (okF F_law_sum) [] (mCons (mOp addF (mOp ixF (mVar 0) (mC (.int 0))) (mOp ixF (mVar 1) (mC (.int 0)))) (mCons (mOp addF (mOp ixF (mVar 0) (mC (.int 1))) (mOp ixF (mVar 1) (mC (.int 1)))) mNil))))
abbrev F_law_plus : FM := runF 0 2 m_law_plus
theorem ok_law_plus (F : FnP K "_law_plus" s_law_plus f fd) (nb : NB mg) (c__law_sum : CalG P w K mg base CX0 1 "_law_sum" (spF ⟨K, mg, at_⟩ 0 2 F_law_sum))  : FnG P w K mg base CX0 2 f fd p_law_plus (spF ⟨K, mg, at_⟩ 0 2 F_law_plus) :=
  fnGm F sc_law_plus (by decide) fun cdv A outer s H E hr => (b_one (v_ret (q_cG0 c__law_sum hr (by omega) pass0 (by decide) rfl (c_nil (a_cons (q_opF op_addZ r_add (q_op_ix (q_var (pv 0)) q_int) (q_op_ix (q_var (pv 1)) q_int)) (a_cons (q_opF op_addZ r_add (q_op_ix (q_var (pv 0)) q_int) (q_op_ix (q_var (pv 1)) q_int)) a_nil)) (len_cons (len_cons len_nil))) rfl)))
abbrev s_law_times : Stmt := top 37
abbrev N_law_times : List Str := ["_law_one", "_law_many_here", "_law_name", "_law_its"]
abbrev p_law_times : List Str := ["_law_one", "_law_many_here"]
theorem sc_law_times : FnScope N_law_times p_law_times (defScope s_law_times) := ⟨rfl, rfl, rfl, by decide +kernel, rfl, by decide +kernel, by decide +kernel⟩
def m_law_times : M Fl := (mRet (mCall [] (okF F_law_sum) [] (mCons (mLc [2, 3] (mSeqO seqD (mOp ixF (mVar 0) (mC (.int 0)))) (tupT 2 (consT (setD 2) (consT (setD 3) nilT))) (ret true) (mTup (mCons (mVar 2) (mCons (mOp mulF (mVar 3) (mVar 1)) mNil)))) (mCons (mOp mulF (mOp ixF (mVar 0) (mC (.int 1))) (mVar 1)) mNil))))
abbrev F_law_times : FM := runF 0 4 m_law_times
theorem ok_law_times (F : FnP K "_law_times" s_law_times f fd) (nb : NB mg) (c__law_sum : CalG P w K mg base CX0 1 "_law_sum" (spF ⟨K, mg, at_⟩ 0 2 F_law_sum))  : FnG P w K mg base CX0 2 f fd p_law_times (spF ⟨K, mg, at_⟩ 0 2 F_law_times) :=
  fnGm F sc_law_times (by decide) fun cdv A outer s H E hr => (b_one (v_ret (q_cG0 c__law_sum hr (by omega) pass0 (by decide) rfl (c_nil (a_cons (q_lc rfl sc_law_times.nd (own := [("_law_name", 2), ("_law_its", 3)]) (vi_any (q_op_ix (q_var (pv 0)) q_int)) (blkOk_by (N := N_law_times) (sc := defScope s_law_times) (by decide +kernel)) (fun _ _ _ _ _ => (pg_tup rfl (pgs_cons (pg_name (i := 2) sc_law_times.nd rfl (Or.inl rfl)) (pgs_cons (pg_name (i := 3) sc_law_times.nd rfl (Or.inl rfl)) pgs_nil)))) (gw_tup (gw_cons (gw_name (by decide)) (gw_cons (gw_name (by decide)) gw_nil))) (fun _ _ _ _ _ => ts_nil) (fun _ _ _ _ _ => (q_tup (a_cons (q_var (pv 2)) (a_cons (q_op op_mulW r_mul (q_var (pv 3)) (q_var (pv 1))) a_nil))))) (a_cons (q_op op_mulW r_mul (q_op_ix (q_var (pv 0)) q_int) (q_var (pv 1))) a_nil)) (len_cons (len_cons len_nil))) rfl)))
abbrev s_law_many : Stmt := top 40
abbrev N_law_many : List Str := ["_law_pot_here"]
abbrev p_law_many : List Str := ["_law_pot_here"]
theorem sc_law_many : FnScope N_law_many p_law_many (defScope s_law_many) := ⟨rfl, rfl, rfl, by decide +kernel, rfl, by decide +kernel, by decide +kernel⟩
def m_law_many : M Fl := (mRet (mCall [0] (okF F_law_of) [] (mCons (mLst (mCons (mC (.int 1)) (mCons (mC (.int 1)) (mCons (mUn negF (mC (.int 1))) (mCons (mC (.int 2)) (mCons (mC (.int 1)) (mCons (mUn negF (mC (.int 2))) (mCons (mC (.int 3)) (mCons (mC (.int 4)) (mCons (mC (.int 6)) (mCons (mUn negF (mC (.int 3))) (mCons (mC (.int 5)) (mCons (mC (.int 9)) (mCons (mUn negF (mC (.int 9))) (mCons (mC (.int 8)) mNil))))))))))))))) mNil)))
abbrev F_law_many : FM := runF 1 1 m_law_many
theorem ok_law_many (F : FnP K "_law_many" s_law_many f fd) (nb : NB mg) (c__law_of : CalG P w K mg base CX0 2 "_law_of" (spF ⟨K, mg, at_⟩ 1 2 F_law_of))  : FnG P w K mg base CX0 3 f fd p_law_many (spF ⟨K, mg, at_⟩ 1 1 F_law_many) :=
  fnGm F sc_law_many (by decide) fun cdv A outer s H E hr => (b_one (v_ret (q_cG0 c__law_of hr (by omega) pass0 (by decide) rfl (c_cons (pv 0) (c_nil (a_cons (q_lst (a_cons q_int (a_cons q_int (a_cons (q_un un_neg r_neg q_int) (a_cons q_int (a_cons q_int (a_cons (q_un un_neg r_neg q_int) (a_cons q_int (a_cons q_int (a_cons q_int (a_cons (q_un un_neg r_neg q_int) (a_cons q_int (a_cons q_int (a_cons (q_un un_neg r_neg q_int) (a_cons q_int a_nil))))))))))))))) a_nil) (len_cons len_nil))) rfl)))
abbrev s_law_some_sum : Stmt := top 41
abbrev N_law_some_sum : List Str := ["_law_pot_here", "_law_names_here", "_law_most", "_law_some_here", "_law_name"]
abbrev p_law_some_sum : List Str := ["_law_pot_here", "_law_names_here", "_law_most"]
theorem sc_law_some_sum : FnScope N_law_some_sum p_law_some_sum (defScope s_law_some_sum) := ⟨rfl, rfl, rfl, by decide +kernel, rfl, by decide +kernel, by decide +kernel⟩
def m_law_some_sum : M Fl := (mSeq (mSet 3 (mCall [0] (okF F_law_some) [] (mCons (mVar 1) (mCons (mFn min2F (mCons (mFn lenF (mCons (mVar 1) mNil)) (mCons (mFn intOfF (mCons (mCall [0] (okF F_law_take) [] (mCons (mOp addF (mVar 2) (mC (.int 1))) mNil)) mNil)) mNil))) mNil))))
  (mRet (mCall [] (okF F_law_sum) [] (mCons (mLc [4] (mSeqO seqD (mVar 3)) (setD 4) (ret true) (mTup (mCons (mVar 4) (mCons (mCall [0] (okF F_law_many) [] mNil) mNil)))) (mCons (mCall [0] (okF F_law_of) [] (mCons (mLst (mCons (mC (.int 0)) (mCons (mC (.int 0)) (mCons (mC (.int 0)) (mCons (mC (.int 1)) (mCons (mUn negF (mC (.int 1))) (mCons (mC (.int 5)) (mCons (mUn negF (mC (.int 99))) (mCons (mC (.int 99)) mNil))))))))) mNil)) mNil)))))
abbrev F_law_some_sum : FM := runF 1 5 m_law_some_sum
theorem ok_law_some_sum (F : FnP K "_law_some_sum" s_law_some_sum f fd) (nb : NB mg) (c__law_some : CalG P w K mg base CX0 2 "_law_some" (spF ⟨K, mg, at_⟩ 1 3 F_law_some)) (c__law_sum : CalG P w K mg base CX0 1 "_law_sum" (spF ⟨K, mg, at_⟩ 0 2 F_law_sum)) (c__law_of : CalG P w K mg base CX0 2 "_law_of" (spF ⟨K, mg, at_⟩ 1 2 F_law_of)) (c__law_take : CalG P w K mg base CX0 1 "_law_take" (spF ⟨K, mg, at_⟩ 1 2 F_law_take)) (c__law_many : CalG P w K mg base CX0 3 "_law_many" (spF ⟨K, mg, at_⟩ 1 1 F_law_many))  : FnG P w K mg base CX0 4 f fd p_law_some_sum (spF ⟨K, mg, at_⟩ 1 3 F_law_some_sum) :=
  fnGm F sc_law_some_sum (by decide) fun cdv A outer s H E hr => (b_cons (v_set (i := 3) sc_law_some_sum.nd rfl (Or.inl rfl) (q_cG0 c__law_some hr (by omega) pass0 (by decide) rfl (c_cons (pv 0) (c_nil (a_cons (q_var (pv 1)) (a_cons (q_callB (call_min2 rfl) r_min2 nb.min bt_min (a_cons (q_callB call_len r_len nb.len bt_len (a_cons (q_var (pv 1)) a_nil)) (a_cons (q_callTy call_int1 r_int nb.int bt_int (a_cons (q_cG0 c__law_take hr (by omega) pass0 (by decide) rfl (c_cons (pv 0) (c_nil (a_cons (q_opF op_addZ r_add (q_var (pv 2)) q_int) a_nil) (len_cons len_nil))) rfl) a_nil)) a_nil))) a_nil)) (len_cons (len_cons len_nil)))) rfl))
  (b_one (v_ret (q_cG0 c__law_sum hr (by omega) pass0 (by decide) rfl (c_nil (a_cons (q_lc rfl sc_law_some_sum.nd (own := [("_law_name", 4)]) (vi_any (q_var (pv 3))) (blkOk_by (N := N_law_some_sum) (sc := defScope s_law_some_sum) (by decide +kernel)) (fun _ _ _ _ _ => pg_name (i := 4) sc_law_some_sum.nd rfl (Or.inl rfl)) (gw_name (by decide)) (fun _ _ _ _ _ => ts_nil) (fun _ _ _ _ _ => (q_tup (a_cons (q_var (pv 4)) (a_cons (q_cG0 c__law_many hr (by omega) pass0 (by decide) rfl (c_cons (pv 0) (c_nil a_nil len_nil)) rfl) a_nil))))) (a_cons (q_cG0 c__law_of hr (by omega) pass0 (by decide) rfl (c_cons (pv 0) (c_nil (a_cons (q_lst (a_cons q_int (a_cons q_int (a_cons q_int (a_cons q_int (a_cons (q_un un_neg r_neg q_int) (a_cons q_int (a_cons (q_un un_neg r_neg q_int) (a_cons q_int a_nil))))))))) a_nil) (len_cons len_nil))) rfl) a_nil)) (len_cons (len_cons len_nil))) rfl))))
abbrev s_law_comes : Stmt := top 42
abbrev N_law_comes : List Str := ["_law_one", "_law_values", "_law_name", "_law_many_here"]
abbrev p_law_comes : List Str := ["_law_one", "_law_values"]
theorem sc_law_comes : FnScope N_law_comes p_law_comes (defScope s_law_comes) := ⟨rfl, rfl, rfl, by decide +kernel, rfl, by decide +kernel, by decide +kernel⟩
def m_law_comes : M Fl := (mRet (mOp addF (mFn sumF (mCons (mLc [2, 3] (mSeqO seqD (mOp ixF (mVar 0) (mC (.int 0)))) (tupT 2 (consT (setD 2) (consT (setD 3) nilT))) (ret true) (mOp mulF (mVar 3) (mIxD (mVar 1) (mVar 2)))) mNil)) (mOp ixF (mVar 0) (mC (.int 1)))))
abbrev F_law_comes : FM := runF 0 4 m_law_comes
theorem ok_law_comes (F : FnP K "_law_comes" s_law_comes f fd) (nb : NB mg)   : FnG P w K mg base CX0 1 f fd p_law_comes (spF ⟨K, mg, at_⟩ 0 2 F_law_comes) :=
  fnGm F sc_law_comes (by decide) fun cdv A outer s H E hr => (b_one (v_ret (q_opF op_addZ r_add (q_callB (cr_sum rfl) r_sum nb.sum bt_sum (a_cons (q_lc rfl sc_law_comes.nd (own := [("_law_name", 2), ("_law_many_here", 3)]) (vi_any (q_op_ix (q_var (pv 0)) q_int)) (blkOk_by (N := N_law_comes) (sc := defScope s_law_comes) (by decide +kernel)) (fun _ _ _ _ _ => (pg_tup rfl (pgs_cons (pg_name (i := 2) sc_law_comes.nd rfl (Or.inl rfl)) (pgs_cons (pg_name (i := 3) sc_law_comes.nd rfl (Or.inl rfl)) pgs_nil)))) (gw_tup (gw_cons (gw_name (by decide)) (gw_cons (gw_name (by decide)) gw_nil))) (fun _ _ _ _ _ => ts_nil) (fun _ _ _ _ _ => (q_op op_mulW r_mul (q_var (pv 3)) (q_ixD hr.u1 (q_var (pv 1)) (q_var (pv 2)))))) a_nil)) (q_op_ix (q_var (pv 0)) q_int))))
end
end K04

set_option Elab.async false
set_option linter.all false
set_option maxRecDepth 100000
set_option maxHeartbeats 4000000
namespace K04
open PySem PySem.Spec PyProof.Rows L2 GX DL
structure SumF (K : PySem.W.Frag) (mg : Str → Option Value) (at_ : Addr → Nat) (C : Addr) : Prop where
  c : mg "Sum" = some (.ref C)
  cl : Cls K C
  n1 : NoAttr K C "_parts"
  n2 : NoAttr K C "_number"
  n3 : NoAttr K C "_counts"
  na : at_ C = 3
  iso : IsoF ⟨K, mg, at_⟩ "Sum" C ["Sum"]
  ne : PySem.W.findIn K (.ref C) "__ne__" = some (some (.builtin "object.__ne__"))
  mo : PySem.W.mroIn K C (.type "object") = some true
theorem SumF.fld {K : PySem.W.Frag} {mg : Str → Option Value} {at_ : Addr → Nat} {C : Addr} (S : SumF K mg at_ C) {f : Str} (h : f = "_parts" ∨ f = "_number" ∨ f = "_counts") : ∀ C', mg "Sum" = some (.ref C') → Cls K C' ∧ NoAttr K C' f ∧ at_ C' = 3 := fun C' e => by
  have := S.c.symm.trans e
  cases this
  rcases h with rfl | rfl | rfl
  · exact ⟨S.cl, S.n1, S.na⟩
  · exact ⟨S.cl, S.n2, S.na⟩
  · exact ⟨S.cl, S.n3, S.na⟩
theorem SumF.fld2 {K : PySem.W.Frag} {mg : Str → Option Value} {at_ : Addr → Nat} {C : Addr} (S : SumF K mg at_ C) {f : Str} (h : f = "_parts" ∨ f = "_number" ∨ f = "_counts") : ∀ C', mg "Sum" = some (.ref C') → Cls K C' ∧ NoAttr K C' f := fun C' e => ⟨(S.fld h C' e).1, (S.fld h C' e).2.1⟩
theorem SumF.at0 {K : PySem.W.Frag} {mg : Str → Option Value} {at_ : Addr → Nat} {C : Addr} (S : SumF K mg at_ C) : 0 < at_ C := by rw [S.na]; decide
/-- the defaults of Sum(..): (), 0 -/
def dd0 : List Dat := [.tup true [], .int 0]
def dd1 : List Dat := [.int 0]
def dd2 : List Dat := []
section
variable {P : Program} {w : World} {K : PySem.W.Frag} {mg : Str → Option Value} {base : Heap} {at_ : Addr → Nat} {f fd0 : Addr} {fd : FuncData} {C : Addr} {dvs0 dvs1 : List V}
abbrev s_init : Stmt := inClass (top 18) 0
abbrev N_init : List Str := ["self", "parts", "number"]
abbrev p_init : List Str := ["self", "parts", "number"]
theorem sc_init : FnScope N_init p_init (defScope s_init) := ⟨rfl, rfl, rfl, by decide +kernel, rfl, by decide +kernel, by decide +kernel⟩
def m_init : M Fl := (mSeq (mIf (mNotT (mTest (mCall [] (okF F_are_parts) [] (mCons (mVar 1) mNil)))) (mRaise "BadParts" (mVar 1)) mNext)
  (mSeq (mIf (mNotT (mTest (mCall [] (okF F_is_integer) [] (mCons (mVar 2) mNil)))) (mRaise "BadNumber" (mVar 2)) mNext)
  (mSeq (mFldSet 0 "Sum" "_parts" 3 (mVar 1))
  (mSeq (mFldSet 0 "Sum" "_number" 3 (mVar 2))
  (mFldSet 0 "Sum" "_counts" 3 (mFn (fun ds => (dictO ds).map Dat.dic) (mCons (mVar 1) mNil)))))))
abbrev F_init : FI := runI 3 "Sum" m_init
theorem ok_init (F : FunD K "__init__" "Sum.__init__" (defArgs s_init) (defBody s_init) (defScope s_init) dvs0 [] f fd) (nb : NB mg) (er : SumF K mg at_ C) (c__are_parts : CalO P w K mg base CX0 3 "_are_parts" (spF ⟨K, mg, at_⟩ 0 1 F_are_parts)) (c_is_integer : CalO P w K mg base CX0 1 "is_integer" (spF ⟨K, mg, at_⟩ 0 1 F_is_integer)) {CBadParts fIBadParts : Addr} (e_BadParts : EC K mg fIBadParts "BadParts" CBadParts) {CBadNumber : Addr} (e_BadNumber : EC K mg fIBadParts "BadNumber" CBadNumber) (iO : IO P w K mg base fIBadParts) : FnOk P w K mg base (L2.CX P w) 4 f fd p_init (spI ⟨K, mg, at_⟩ "Sum" 3 F_init) :=
  fnIm F sc_init (by decide) fun cdv A outer s H E hr => (b_cons (v_if (t_not (t_val (q_cO0 c__are_parts hr (by omega) pass0 (by decide) rfl (c_nil (a_cons (q_var (pv 1)) a_nil) (len_cons len_nil)) rfl))) (b_one (v_raise e_BadParts iO hr (by omega) (takes_of rfl rfl rfl rfl) (q_var (pv 1)))) b_nil)
  (b_cons (v_if (t_not (t_val (q_cO0 c_is_integer hr (by omega) pass0 (by decide) rfl (c_nil (a_cons (q_var (pv 2)) a_nil) (len_cons len_nil)) rfl))) (b_one (v_raise e_BadNumber iO hr (by omega) (takes_of rfl rfl rfl rfl) (q_var (pv 2)))) b_nil)
  (b_cons (v_fld (er.fld (by simp)) (pv 0) (q_var (pv 1)))
  (b_cons (v_fld (er.fld (by simp)) (pv 0) (q_var (pv 2)))
  (b_one (v_fld (er.fld (by simp)) (pv 0) (q_callTyF (call_dictZ rfl) r_dict nb.dict bt_dict (a_cons (q_var (pv 1)) a_nil))))))))
abbrev s_parts : Stmt := inClass (top 18) 1
abbrev N_parts : List Str := ["self"]
abbrev p_parts : List Str := ["self"]
theorem sc_parts : FnScope N_parts p_parts (defScope s_parts) := ⟨rfl, rfl, rfl, by decide +kernel, rfl, by decide +kernel, by decide +kernel⟩
def m_parts : M Fl := (mRet (mAttr "Sum" "_parts" (mVar 0)))
abbrev F_parts : FM := runF 0 1 m_parts
theorem ok_parts (F : FunD K "parts" "Sum.parts" (defArgs s_parts) (defBody s_parts) (defScope s_parts) [] [] f fd) (nb : NB mg) (er : SumF K mg at_ C) : FnOk P w K mg base CX0 1 f fd p_parts (spF ⟨K, mg, at_⟩ 0 1 F_parts) :=
  fnOm F sc_parts (by decide) fun cdv A outer s H E hr => (b_one (v_ret (q_fld (er.fld2 (by simp)) (q_var (pv 0)))))
abbrev s_number : Stmt := inClass (top 18) 2
abbrev N_number : List Str := ["self"]
abbrev p_number : List Str := ["self"]
theorem sc_number : FnScope N_number p_number (defScope s_number) := ⟨rfl, rfl, rfl, by decide +kernel, rfl, by decide +kernel, by decide +kernel⟩
def m_number : M Fl := (mRet (mAttr "Sum" "_number" (mVar 0)))
abbrev F_number : FM := runF 0 1 m_number
theorem ok_number (F : FunD K "number" "Sum.number" (defArgs s_number) (defBody s_number) (defScope s_number) [] [] f fd) (nb : NB mg) (er : SumF K mg at_ C) : FnOk P w K mg base CX0 1 f fd p_number (spF ⟨K, mg, at_⟩ 0 1 F_number) :=
  fnOm F sc_number (by decide) fun cdv A outer s H E hr => (b_one (v_ret (q_fld (er.fld2 (by simp)) (q_var (pv 0)))))
abbrev s_counted : Stmt := top 22
abbrev N_counted : List Str := ["counts", "number", "names", "name"]
abbrev p_counted : List Str := ["counts", "number"]
theorem sc_counted : FnScope N_counted p_counted (defScope s_counted) := ⟨rfl, rfl, rfl, by decide +kernel, rfl, by decide +kernel, by decide +kernel⟩
def m_counted : M Fl := (mSeq (mSet 2 (mFn sortSF (mCons (mLc [3] (mSeqO keysO (mVar 0)) (setD 3) (mTest (mOp neF (mIxD (mVar 0) (mVar 3)) (mC (.int 0)))) (mFn strF (mCons (mVar 3) mNil))) mNil)))
  (mRet (mMake (okI F_init) dd2 (mCons (mFn tupF (mCons (mLc [3] (mSeqO seqD (mVar 2)) (setD 3) (ret true) (mTup (mCons (mVar 3) (mCons (mIxD (mVar 0) (mVar 3)) mNil)))) mNil)) (mCons (mVar 1) mNil)))))
abbrev F_counted : FM := runF 0 4 m_counted
theorem ok_counted (F : FunD K "sum_of_counts" "sum_of_counts" (defArgs s_counted) (defBody s_counted) (defScope s_counted) [] [] f fd) (nb : NB mg) (er : SumF K mg at_ C) (c_Sum2 : CalC P w K mg base (L2.CX P w) 4 "Sum" C dvs2 (spI ⟨K, mg, at_⟩ "Sum" 3 F_init)) (dd2H : ∀ H, DDs ⟨K, mg, at_⟩ H dvs2 dd2) (KY : KSys K) : FnOk P w K mg base CX0 6 f fd p_counted (spF ⟨K, mg, at_⟩ 0 2 F_counted) :=
  fnOm F sc_counted (by decide) fun cdv A outer s H E hr => (b_cons (v_set (i := 2) sc_counted.nd rfl (Or.inl rfl) (q_callBF cr_sortedS r_sortS nb.sorted bt_sorted (a_cons (q_lc rfl sc_counted.nd (own := [("name", 3)]) (vi_keys (q_var (pv 0))) (blkOk_by (N := N_counted) (sc := defScope s_counted) (by decide +kernel)) (fun _ _ _ _ _ => pg_name (i := 3) sc_counted.nd rfl (Or.inl rfl)) (gw_name (by decide)) (fun _ _ _ _ _ => (ts_one (t_cmp (op_neX KY hr.u64) r_ne (q_ixD hr.u1 (q_var (pv 0)) (q_var (pv 3))) q_int (nomark _)))) (fun _ _ _ _ _ => (q_callTy call_strZ r_str nb.str bt_str (a_cons (q_var (pv 3)) a_nil)))) a_nil)))
  (b_one (v_ret (q_mk c_Sum2 er.at0 hr (by omega) passL dd2H (a_cons (q_callTy call_tupS r_tuple nb.tuple bt_tuple (a_cons (q_lc rfl sc_counted.nd (own := [("name", 3)]) (vi_any (q_var (pv 2))) (blkOk_by (N := N_counted) (sc := defScope s_counted) (by decide +kernel)) (fun _ _ _ _ _ => pg_name (i := 3) sc_counted.nd rfl (Or.inl rfl)) (gw_name (by decide)) (fun _ _ _ _ _ => ts_nil) (fun _ _ _ _ _ => (q_tup (a_cons (q_var (pv 3)) (a_cons (q_ixD hr.u1 (q_var (pv 0)) (q_var (pv 3))) a_nil))))) a_nil)) (a_cons (q_var (pv 1)) a_nil)) (len_cons (len_cons len_nil)) rfl))))
abbrev s_added : Stmt := top 23
abbrev N_added : List Str := ["one", "other", "times", "counts", "name", "many"]
abbrev p_added : List Str := ["one", "other", "times"]
theorem sc_added : FnScope N_added p_added (defScope s_added) := ⟨rfl, rfl, rfl, by decide +kernel, rfl, by decide +kernel, by decide +kernel⟩
def m_added : M Fl := (mSeq (mOwn 3 (mFnN (fun ds => (dictO ds).map MO.dic) (mCons (mProp "Sum" F_parts (mVar 0)) mNil)))
  (mSeq (mFor (mSeqO seqD (mProp "Sum" F_parts (mVar 1))) (tupT 2 (consT (setD 4) (consT (setD 5) nilT))) (mPutM 3 (mVar 4) (mOp addF (mGetM 3 (mVar 4) (mC (.int 0))) (mOp mulF (mVar 2) (mVar 5)))))
  (mRet (mCall [] (okF F_counted) [] (mCons (mFz 3) (mCons (mOp addF (mProp "Sum" F_number (mVar 0)) (mOp mulF (mVar 2) (mProp "Sum" F_number (mVar 1)))) mNil))))))
abbrev F_added : FM := runF 0 6 m_added
theorem ok_added (F : FunD K "_added" "_added" (defArgs s_added) (defBody s_added) (defScope s_added) [] [] f fd) (nb : NB mg) (er : SumF K mg at_ C) (c_parts : CalP P w K mg base CX0 1 C "parts" (spF ⟨K, mg, at_⟩ 0 1 F_parts)) (c__counted : CalO P w K mg base CX0 6 "sum_of_counts" (spF ⟨K, mg, at_⟩ 0 2 F_counted)) (c_number : CalP P w K mg base CX0 1 C "number" (spF ⟨K, mg, at_⟩ 0 1 F_number)) : FnOk P w K mg base CX0 7 f fd p_added (spF ⟨K, mg, at_⟩ 0 3 F_added) :=
  fnOm F sc_added (by decide) fun cdv A outer s H E hr => (b_cons (v_own (i := 3) sc_added.nd rfl (Or.inl rfl) (n_callTy (call_dictZ rfl) rn_dict nb.dict bt_dict (a_cons (q_prop er.c er.cl c_parts hr (by omega) pass0 (q_var (pv 0))) a_nil)))
  (b_cons (v_for PassesOwn.never rfl (vi_any (q_prop er.c er.cl c_parts hr (by omega) pass0 (q_var (pv 1)))) (vg_tup rfl (vg_cons (vg_name (i := 4) sc_added.nd rfl (Or.inl rfl)) (vg_cons (vg_name (i := 5) sc_added.nd rfl (Or.inl rfl)) vg_nil))) (b_one (v_put hr.u1 (pv 3) (q_var (pv 4)) (q_opF op_addZ r_add (q_getM hr.u1 (pv 3) (q_var (pv 4)) q_int) (q_op op_mulW r_mul (q_var (pv 2)) (q_var (pv 5)))))))
  (b_one (v_ret (q_cO0 c__counted hr (by omega) pass0 (by decide) rfl (c_nil (a_cons (q_fz (pv 3)) (a_cons (q_opF op_addZ r_add (q_prop er.c er.cl c_number hr (by omega) pass0 (q_var (pv 0))) (q_op op_mulW r_mul (q_var (pv 2)) (q_prop er.c er.cl c_number hr (by omega) pass0 (q_var (pv 1))))) a_nil)) (len_cons (len_cons len_nil))) rfl)))))
abbrev s_times : Stmt := top 24
abbrev N_times : List Str := ["one", "times", "name", "many"]
abbrev p_times : List Str := ["one", "times"]
theorem sc_times : FnScope N_times p_times (defScope s_times) := ⟨rfl, rfl, rfl, by decide +kernel, rfl, by decide +kernel, by decide +kernel⟩
def m_times : M Fl := (mRet (mCall [] (okF F_counted) [] (mCons (mFzN (mDcN [2, 3] (mSeqO seqD (mProp "Sum" F_parts (mVar 0))) (tupT 2 (consT (setD 2) (consT (setD 3) nilT))) (ret true) (mVar 2) (mOp mulF (mVar 1) (mVar 3)))) (mCons (mOp mulF (mVar 1) (mProp "Sum" F_number (mVar 0))) mNil))))
abbrev F_times : FM := runF 0 4 m_times
theorem ok_times (F : FunD K "_times" "_times" (defArgs s_times) (defBody s_times) (defScope s_times) [] [] f fd) (nb : NB mg) (er : SumF K mg at_ C) (c__counted : CalO P w K mg base CX0 6 "sum_of_counts" (spF ⟨K, mg, at_⟩ 0 2 F_counted)) (c_parts : CalP P w K mg base CX0 1 C "parts" (spF ⟨K, mg, at_⟩ 0 1 F_parts)) (c_number : CalP P w K mg base CX0 1 C "number" (spF ⟨K, mg, at_⟩ 0 1 F_number)) : FnOk P w K mg base CX0 7 f fd p_times (spF ⟨K, mg, at_⟩ 0 2 F_times) :=
  fnOm F sc_times (by decide) fun cdv A outer s H E hr => (b_one (v_ret (q_cO0 c__counted hr (by omega) pass0 (by decide) rfl (c_nil (a_cons (q_dc rfl sc_times.nd (own := [("name", 2), ("many", 3)]) (vi_any (q_prop er.c er.cl c_parts hr (by omega) pass0 (q_var (pv 0)))) (blkOk_by (N := N_times) (sc := defScope s_times) (by decide +kernel)) (fun _ _ _ _ _ => (pg_tup rfl (pgs_cons (pg_name (i := 2) sc_times.nd rfl (Or.inl rfl)) (pgs_cons (pg_name (i := 3) sc_times.nd rfl (Or.inl rfl)) pgs_nil)))) (gw_tup (gw_cons (gw_name (by decide)) (gw_cons (gw_name (by decide)) gw_nil))) (fun _ _ _ _ _ => ts_nil) (fun _ _ _ _ _ => (q_var (pv 2))) (fun _ _ _ _ _ => (q_op op_mulW r_mul (q_var (pv 1)) (q_var (pv 3))))) (a_cons (q_op op_mulW r_mul (q_var (pv 1)) (q_prop er.c er.cl c_number hr (by omega) pass0 (q_var (pv 0)))) a_nil)) (len_cons (len_cons len_nil))) rfl)))
abbrev s_are_values : Stmt := top 21
abbrev N_are_values : List Str := ["value", "parts", "name", "number", "_"]
abbrev p_are_values : List Str := ["value", "parts"]
theorem sc_are_values : FnScope N_are_values p_are_values (defScope s_are_values) := ⟨rfl, rfl, rfl, by decide +kernel, rfl, by decide +kernel, by decide +kernel⟩
def m_are_values : M Fl := (mSeq (mIf (mNotT (mTest (mIsi (fun d => (tyName d).bind fun t => kitB t "dict") (mVar 0)))) (mRet (mC (.bl false))) mNext)
  (mSeq (mFor (mSeqO itemsO (mVar 0)) (tupT 2 (consT (setD 2) (consT (setD 3) nilT))) (mIf (mOrT (mNotT (mTest (mCall [] (okF F_is_name) [] (mCons (mVar 2) mNil)))) (mNotT (mTest (mCall [] (okF F_is_integer) [] (mCons (mVar 3) mNil))))) (mRet (mC (.bl false))) mNext))
  (mSeq (mFor (mSeqO seqD (mVar 1)) (tupT 2 (consT (setD 2) (consT (setD 4) nilT))) (mIf (mTest (mInD true (mVar 2) (mVar 0))) (mRet (mC (.bl false))) mNext))
  (mRet (mC (.bl true))))))
abbrev F_are_values : FM := runF 0 5 m_are_values
theorem ok_are_values (F : FunD K "_are_values" "_are_values" (defArgs s_are_values) (defBody s_are_values) (defScope s_are_values) [] [] f fd) (nb : NB mg) (c_is_name : CalO P w K mg base CX0 1 "is_name" (spF ⟨K, mg, at_⟩ 0 1 F_is_name)) (c_is_integer : CalO P w K mg base CX0 1 "is_integer" (spF ⟨K, mg, at_⟩ 0 1 F_is_integer)) : FnOk P w K mg base CX0 2 f fd p_are_values (spF ⟨K, mg, at_⟩ 0 2 F_are_values) :=
  fnOm F sc_are_values (by decide) fun cdv A outer s H E hr => (b_cons (v_if (t_not (t_val (q_isi (isi_ty "dict") nb.isinstance (q_var (pv 0)) (pe_ty nb.dict bt_dict)))) (b_one (v_ret q_bl)) b_nil)
  (b_cons (v_for PassesOwn.never rfl (vi_items (q_var (pv 0))) (vg_tup rfl (vg_cons (vg_name (i := 2) sc_are_values.nd rfl (Or.inl rfl)) (vg_cons (vg_name (i := 3) sc_are_values.nd rfl (Or.inl rfl)) vg_nil))) (b_one (v_if (t_w (w_or (t_not (t_val (q_cO0 c_is_name hr (by omega) pass0 (by decide) rfl (c_nil (a_cons (q_var (pv 2)) a_nil) (len_cons len_nil)) rfl))) (w_or1 (t_not (t_val (q_cO0 c_is_integer hr (by omega) pass0 (by decide) rfl (c_nil (a_cons (q_var (pv 3)) a_nil) (len_cons len_nil)) rfl)))))) (b_one (v_ret q_bl)) b_nil)))
  (b_cons (v_for PassesOwn.never rfl (vi_any (q_var (pv 1))) (vg_tup rfl (vg_cons (vg_name (i := 2) sc_are_values.nd rfl (Or.inl rfl)) (vg_cons (vg_name (i := 4) sc_are_values.nd rfl (Or.inl rfl)) vg_nil))) (b_one (v_if (t_ninD hr.u1 (q_var (pv 2)) (q_var (pv 0))) (b_one (v_ret q_bl)) b_nil)))
  (b_one (v_ret q_bl)))))
abbrev s_call : Stmt := inClass (top 18) 11
abbrev N_call : List Str := ["self", "values", "total", "name", "many"]
abbrev p_call : List Str := ["self", "values"]
theorem sc_call : FnScope N_call p_call (defScope s_call) := ⟨rfl, rfl, rfl, by decide +kernel, rfl, by decide +kernel, by decide +kernel⟩
def m_call : M Fl := (mSeq (mIf (mNotT (mTest (mCall [] (okF F_are_values) [] (mCons (mVar 1) (mCons (mAttr "Sum" "_parts" (mVar 0)) mNil))))) (mRaise "BadValues" (mVar 1)) mNext)
  (mSeq (mSet 2 (mAttr "Sum" "_number" (mVar 0)))
  (mSeq (mFor (mSeqO seqD (mAttr "Sum" "_parts" (mVar 0))) (tupT 2 (consT (setD 3) (consT (setD 4) nilT))) (mSet 2 (mOp addF (mVar 2) (mOp mulF (mVar 4) (mIxD (mVar 1) (mVar 3))))))
  (mRet (mVar 2)))))
abbrev F_call : FM := runF 0 5 m_call
theorem ok_call (F : FunD K "__call__" "Sum.__call__" (defArgs s_call) (defBody s_call) (defScope s_call) [] [] f fd) (nb : NB mg) (er : SumF K mg at_ C) (c__are_values : CalO P w K mg base CX0 2 "_are_values" (spF ⟨K, mg, at_⟩ 0 2 F_are_values)) {CBadValues fIBadValues : Addr} (e_BadValues : EC K mg fIBadValues "BadValues" CBadValues) (iO : IO P w K mg base fIBadValues) : FnOk P w K mg base (L2.CX P w) 3 f fd p_call (spF ⟨K, mg, at_⟩ 0 2 F_call) :=
  fnXm F sc_call (by decide) fun cdv A outer s H E hr => (b_cons (v_if (t_not (t_val (q_cO0 c__are_values hr (by omega) pass0 (by decide) rfl (c_nil (a_cons (q_var (pv 1)) (a_cons (q_fld (er.fld2 (by simp)) (q_var (pv 0))) a_nil)) (len_cons (len_cons len_nil))) rfl))) (b_one (v_raise e_BadValues iO hr (by omega) (takes_of rfl rfl rfl rfl) (q_var (pv 1)))) b_nil)
  (b_cons (v_set (i := 2) sc_call.nd rfl (Or.inl rfl) (q_fld (er.fld2 (by simp)) (q_var (pv 0))))
  (b_cons (v_for (passes_of rfl) rfl (vi_any (q_fld (er.fld2 (by simp)) (q_var (pv 0)))) (vg_tup rfl (vg_cons (vg_name (i := 3) sc_call.nd rfl (Or.inl rfl)) (vg_cons (vg_name (i := 4) sc_call.nd rfl (Or.inl rfl)) vg_nil))) (b_one (v_set (i := 2) sc_call.nd rfl (Or.inl rfl) (q_opF op_addZ r_add (q_var (pv 2)) (q_op op_mulW r_mul (q_var (pv 4)) (q_ixD hr.u1 (q_var (pv 1)) (q_var (pv 3))))))))
  (b_one (v_ret (q_var (pv 2)))))))
abbrev s_add : Stmt := inClass (top 18) 12
abbrev N_add : List Str := ["self", "other"]
abbrev p_add : List Str := ["self", "other"]
theorem sc_add : FnScope N_add p_add (defScope s_add) := ⟨rfl, rfl, rfl, by decide +kernel, rfl, by decide +kernel, by decide +kernel⟩
def m_add : M Fl := (mSeq (mIf (mTest (mIsi (isoB "Sum" ["Sum"]) (mVar 1))) (mRet (mCall [] (okF F_added) [] (mCons (mVar 0) (mCons (mVar 1) (mCons (mC (.int 1)) mNil))))) mNext)
  (mSeq (mIf (mTest (mCall [] (okF F_is_integer) [] (mCons (mVar 1) mNil))) (mRet (mMake (okI F_init) dd2 (mCons (mAttr "Sum" "_parts" (mVar 0)) (mCons (mOp addF (mAttr "Sum" "_number" (mVar 0)) (mVar 1)) mNil)))) mNext)
  nevM))
abbrev F_add : FM := runF 0 2 m_add
theorem ok_add (F : FunD K "__add__" "Sum.__add__" (defArgs s_add) (defBody s_add) (defScope s_add) [] [] f fd) (nb : NB mg) (er : SumF K mg at_ C) (c__added : CalO P w K mg base CX0 7 "_added" (spF ⟨K, mg, at_⟩ 0 3 F_added)) (c_is_integer : CalO P w K mg base CX0 1 "is_integer" (spF ⟨K, mg, at_⟩ 0 1 F_is_integer)) (c_Sum2 : CalC P w K mg base (L2.CX P w) 4 "Sum" C dvs2 (spI ⟨K, mg, at_⟩ "Sum" 3 F_init)) (dd2H : ∀ H, DDs ⟨K, mg, at_⟩ H dvs2 dd2) : FnOk P w K mg base CX0 8 f fd p_add (spF ⟨K, mg, at_⟩ 0 2 F_add) :=
  fnOm F sc_add (by decide) fun cdv A outer s H E hr => (b_cons (v_if (t_val (q_isiC er.iso nb.isinstance (q_var (pv 1)) (pe_own er.c))) (b_one (v_ret (q_cO0 c__added hr (by omega) pass0 (by decide) rfl (c_nil (a_cons (q_var (pv 0)) (a_cons (q_var (pv 1)) (a_cons q_int a_nil))) (len_cons (len_cons (len_cons len_nil)))) rfl))) b_nil)
  (b_cons (v_if (t_val (q_cO0 c_is_integer hr (by omega) pass0 (by decide) rfl (c_nil (a_cons (q_var (pv 1)) a_nil) (len_cons len_nil)) rfl)) (b_one (v_ret (q_mk c_Sum2 er.at0 hr (by omega) passL dd2H (a_cons (q_fld (er.fld2 (by simp)) (q_var (pv 0))) (a_cons (q_opF op_addZ r_add (q_fld (er.fld2 (by simp)) (q_var (pv 0))) (q_var (pv 1))) a_nil)) (len_cons (len_cons len_nil)) rfl))) b_nil)
  (b_one v_never)))
abbrev s_radd : Stmt := inClass (top 18) 13
abbrev N_radd : List Str := ["self", "other"]
abbrev p_radd : List Str := ["self", "other"]
theorem sc_radd : FnScope N_radd p_radd (defScope s_radd) := ⟨rfl, rfl, rfl, by decide +kernel, rfl, by decide +kernel, by decide +kernel⟩
def m_radd : M Fl := (mSeq (mIf (mTest (mCall [] (okF F_is_integer) [] (mCons (mVar 1) mNil))) (mRet (mMake (okI F_init) dd2 (mCons (mAttr "Sum" "_parts" (mVar 0)) (mCons (mOp addF (mVar 1) (mAttr "Sum" "_number" (mVar 0))) mNil)))) mNext)
  nevM)
abbrev F_radd : FM := runF 0 2 m_radd
theorem ok_radd (F : FunD K "__radd__" "Sum.__radd__" (defArgs s_radd) (defBody s_radd) (defScope s_radd) [] [] f fd) (nb : NB mg) (er : SumF K mg at_ C) (c_is_integer : CalO P w K mg base CX0 1 "is_integer" (spF ⟨K, mg, at_⟩ 0 1 F_is_integer)) (c_Sum2 : CalC P w K mg base (L2.CX P w) 4 "Sum" C dvs2 (spI ⟨K, mg, at_⟩ "Sum" 3 F_init)) (dd2H : ∀ H, DDs ⟨K, mg, at_⟩ H dvs2 dd2) : FnOk P w K mg base CX0 6 f fd p_radd (spF ⟨K, mg, at_⟩ 0 2 F_radd) :=
  fnOm F sc_radd (by decide) fun cdv A outer s H E hr => (b_cons (v_if (t_val (q_cO0 c_is_integer hr (by omega) pass0 (by decide) rfl (c_nil (a_cons (q_var (pv 1)) a_nil) (len_cons len_nil)) rfl)) (b_one (v_ret (q_mk c_Sum2 er.at0 hr (by omega) passL dd2H (a_cons (q_fld (er.fld2 (by simp)) (q_var (pv 0))) (a_cons (q_opF op_addZ r_add (q_var (pv 1)) (q_fld (er.fld2 (by simp)) (q_var (pv 0)))) a_nil)) (len_cons (len_cons len_nil)) rfl))) b_nil)
  (b_one v_never))
abbrev s_sub : Stmt := inClass (top 18) 14
abbrev N_sub : List Str := ["self", "other"]
abbrev p_sub : List Str := ["self", "other"]
theorem sc_sub : FnScope N_sub p_sub (defScope s_sub) := ⟨rfl, rfl, rfl, by decide +kernel, rfl, by decide +kernel, by decide +kernel⟩
def m_sub : M Fl := (mSeq (mIf (mTest (mIsi (isoB "Sum" ["Sum"]) (mVar 1))) (mRet (mCall [] (okF F_added) [] (mCons (mVar 0) (mCons (mVar 1) (mCons (mUn negF (mC (.int 1))) mNil))))) mNext)
  (mSeq (mIf (mTest (mCall [] (okF F_is_integer) [] (mCons (mVar 1) mNil))) (mRet (mMake (okI F_init) dd2 (mCons (mAttr "Sum" "_parts" (mVar 0)) (mCons (mOp subF (mAttr "Sum" "_number" (mVar 0)) (mVar 1)) mNil)))) mNext)
  nevM))
abbrev F_sub : FM := runF 0 2 m_sub
theorem ok_sub (F : FunD K "__sub__" "Sum.__sub__" (defArgs s_sub) (defBody s_sub) (defScope s_sub) [] [] f fd) (nb : NB mg) (er : SumF K mg at_ C) (c__added : CalO P w K mg base CX0 7 "_added" (spF ⟨K, mg, at_⟩ 0 3 F_added)) (c_is_integer : CalO P w K mg base CX0 1 "is_integer" (spF ⟨K, mg, at_⟩ 0 1 F_is_integer)) (c_Sum2 : CalC P w K mg base (L2.CX P w) 4 "Sum" C dvs2 (spI ⟨K, mg, at_⟩ "Sum" 3 F_init)) (dd2H : ∀ H, DDs ⟨K, mg, at_⟩ H dvs2 dd2) : FnOk P w K mg base CX0 8 f fd p_sub (spF ⟨K, mg, at_⟩ 0 2 F_sub) :=
  fnOm F sc_sub (by decide) fun cdv A outer s H E hr => (b_cons (v_if (t_val (q_isiC er.iso nb.isinstance (q_var (pv 1)) (pe_own er.c))) (b_one (v_ret (q_cO0 c__added hr (by omega) pass0 (by decide) rfl (c_nil (a_cons (q_var (pv 0)) (a_cons (q_var (pv 1)) (a_cons (q_un un_neg r_neg q_int) a_nil))) (len_cons (len_cons (len_cons len_nil)))) rfl))) b_nil)
  (b_cons (v_if (t_val (q_cO0 c_is_integer hr (by omega) pass0 (by decide) rfl (c_nil (a_cons (q_var (pv 1)) a_nil) (len_cons len_nil)) rfl)) (b_one (v_ret (q_mk c_Sum2 er.at0 hr (by omega) passL dd2H (a_cons (q_fld (er.fld2 (by simp)) (q_var (pv 0))) (a_cons (q_op op_sub r_sub (q_fld (er.fld2 (by simp)) (q_var (pv 0))) (q_var (pv 1))) a_nil)) (len_cons (len_cons len_nil)) rfl))) b_nil)
  (b_one v_never)))
abbrev s_rsub : Stmt := inClass (top 18) 15
abbrev N_rsub : List Str := ["self", "other"]
abbrev p_rsub : List Str := ["self", "other"]
theorem sc_rsub : FnScope N_rsub p_rsub (defScope s_rsub) := ⟨rfl, rfl, rfl, by decide +kernel, rfl, by decide +kernel, by decide +kernel⟩
def m_rsub : M Fl := (mSeq (mIf (mTest (mCall [] (okF F_is_integer) [] (mCons (mVar 1) mNil))) (mRet (mOp (opOwn "Sum" F_add F_radd (fun _ _ => none)) (mCall [] (okF F_times) [] (mCons (mVar 0) (mCons (mUn negF (mC (.int 1))) mNil))) (mVar 1))) mNext)
  nevM)
abbrev F_rsub : FM := runF 0 2 m_rsub
theorem ok_rsub (F : FunD K "__rsub__" "Sum.__rsub__" (defArgs s_rsub) (defBody s_rsub) (defScope s_rsub) [] [] f fd) (nb : NB mg) (er : SumF K mg at_ C) (c_is_integer : CalO P w K mg base CX0 1 "is_integer" (spF ⟨K, mg, at_⟩ 0 1 F_is_integer)) {f_add : Addr} (c_add : CalM P w K mg base CX0 8 C "__add__" f_add (spF ⟨K, mg, at_⟩ 0 2 F_add)) {f_radd : Addr} (c_radd : CalM P w K mg base CX0 6 C "__radd__" f_radd (spF ⟨K, mg, at_⟩ 0 2 F_radd)) (c__times : CalO P w K mg base CX0 7 "_times" (spF ⟨K, mg, at_⟩ 0 2 F_times)) (o_add : OpsF K C "add" f_add f_radd) : FnOk P w K mg base CX0 10 f fd p_rsub (spF ⟨K, mg, at_⟩ 0 2 F_rsub) :=
  fnOm F sc_rsub (by decide) fun cdv A outer s H E hr => (b_cons (v_if (t_val (q_cO0 c_is_integer hr (by omega) pass0 (by decide) rfl (c_nil (a_cons (q_var (pv 1)) a_nil) (len_cons len_nil)) rfl)) (b_one (v_ret (q_own_add o_add er.c c_add c_radd hr (by omega) pass0 (q_cO0 c__times hr (by omega) pass0 (by decide) rfl (c_nil (a_cons (q_var (pv 0)) (a_cons (q_un un_neg r_neg q_int) a_nil)) (len_cons (len_cons len_nil))) rfl) (q_var (pv 1))))) b_nil)
  (b_one v_never))
abbrev s_neg : Stmt := inClass (top 18) 16
abbrev N_neg : List Str := ["self"]
abbrev p_neg : List Str := ["self"]
theorem sc_neg : FnScope N_neg p_neg (defScope s_neg) := ⟨rfl, rfl, rfl, by decide +kernel, rfl, by decide +kernel, by decide +kernel⟩
def m_neg : M Fl := (mRet (mCall [] (okF F_times) [] (mCons (mVar 0) (mCons (mUn negF (mC (.int 1))) mNil))))
abbrev F_neg : FM := runF 0 1 m_neg
theorem ok_neg (F : FunD K "__neg__" "Sum.__neg__" (defArgs s_neg) (defBody s_neg) (defScope s_neg) [] [] f fd) (nb : NB mg) (c__times : CalO P w K mg base CX0 7 "_times" (spF ⟨K, mg, at_⟩ 0 2 F_times)) : FnOk P w K mg base CX0 8 f fd p_neg (spF ⟨K, mg, at_⟩ 0 1 F_neg) :=
  fnOm F sc_neg (by decide) fun cdv A outer s H E hr => (b_one (v_ret (q_cO0 c__times hr (by omega) pass0 (by decide) rfl (c_nil (a_cons (q_var (pv 0)) (a_cons (q_un un_neg r_neg q_int) a_nil)) (len_cons (len_cons len_nil))) rfl)))
abbrev s_mul : Stmt := inClass (top 18) 17
abbrev N_mul : List Str := ["self", "other"]
abbrev p_mul : List Str := ["self", "other"]
theorem sc_mul : FnScope N_mul p_mul (defScope s_mul) := ⟨rfl, rfl, rfl, by decide +kernel, rfl, by decide +kernel, by decide +kernel⟩
def m_mul : M Fl := (mSeq (mIf (mTest (mCall [] (okF F_is_integer) [] (mCons (mVar 1) mNil))) (mRet (mCall [] (okF F_times) [] (mCons (mVar 0) (mCons (mVar 1) mNil)))) mNext)
  nevM)
abbrev F_mul : FM := runF 0 2 m_mul
theorem ok_mul (F : FunD K "__mul__" "Sum.__mul__" (defArgs s_mul) (defBody s_mul) (defScope s_mul) [] [] f fd) (nb : NB mg) (c_is_integer : CalO P w K mg base CX0 1 "is_integer" (spF ⟨K, mg, at_⟩ 0 1 F_is_integer)) (c__times : CalO P w K mg base CX0 7 "_times" (spF ⟨K, mg, at_⟩ 0 2 F_times)) : FnOk P w K mg base CX0 8 f fd p_mul (spF ⟨K, mg, at_⟩ 0 2 F_mul) :=
  fnOm F sc_mul (by decide) fun cdv A outer s H E hr => (b_cons (v_if (t_val (q_cO0 c_is_integer hr (by omega) pass0 (by decide) rfl (c_nil (a_cons (q_var (pv 1)) a_nil) (len_cons len_nil)) rfl)) (b_one (v_ret (q_cO0 c__times hr (by omega) pass0 (by decide) rfl (c_nil (a_cons (q_var (pv 0)) (a_cons (q_var (pv 1)) a_nil)) (len_cons (len_cons len_nil))) rfl))) b_nil)
  (b_one v_never))
abbrev s_rmul : Stmt := inClass (top 18) 18
abbrev N_rmul : List Str := ["self", "other"]
abbrev p_rmul : List Str := ["self", "other"]
theorem sc_rmul : FnScope N_rmul p_rmul (defScope s_rmul) := ⟨rfl, rfl, rfl, by decide +kernel, rfl, by decide +kernel, by decide +kernel⟩
def m_rmul : M Fl := (mSeq (mIf (mTest (mCall [] (okF F_is_integer) [] (mCons (mVar 1) mNil))) (mRet (mCall [] (okF F_times) [] (mCons (mVar 0) (mCons (mVar 1) mNil)))) mNext)
  nevM)
abbrev F_rmul : FM := runF 0 2 m_rmul
theorem ok_rmul (F : FunD K "__rmul__" "Sum.__rmul__" (defArgs s_rmul) (defBody s_rmul) (defScope s_rmul) [] [] f fd) (nb : NB mg) (c_is_integer : CalO P w K mg base CX0 1 "is_integer" (spF ⟨K, mg, at_⟩ 0 1 F_is_integer)) (c__times : CalO P w K mg base CX0 7 "_times" (spF ⟨K, mg, at_⟩ 0 2 F_times)) : FnOk P w K mg base CX0 8 f fd p_rmul (spF ⟨K, mg, at_⟩ 0 2 F_rmul) :=
  fnOm F sc_rmul (by decide) fun cdv A outer s H E hr => (b_cons (v_if (t_val (q_cO0 c_is_integer hr (by omega) pass0 (by decide) rfl (c_nil (a_cons (q_var (pv 1)) a_nil) (len_cons len_nil)) rfl)) (b_one (v_ret (q_cO0 c__times hr (by omega) pass0 (by decide) rfl (c_nil (a_cons (q_var (pv 0)) (a_cons (q_var (pv 1)) a_nil)) (len_cons (len_cons len_nil))) rfl))) b_nil)
  (b_one v_never))
abbrev s_eq : Stmt := inClass (top 18) 20
abbrev N_eq : List Str := ["self", "other"]
abbrev p_eq : List Str := ["self", "other"]
theorem sc_eq : FnScope N_eq p_eq (defScope s_eq) := ⟨rfl, rfl, rfl, by decide +kernel, rfl, by decide +kernel, by decide +kernel⟩
def m_eq : M Fl := (mRet (mAndV (mIsi (isoB "Sum" ["Sum"]) (mVar 1)) (mAndV (mOp eqF (mAttr "Sum" "_parts" (mVar 0)) (mAttr "Sum" "_parts" (mVar 1))) (mOp eqF (mAttr "Sum" "_number" (mVar 0)) (mAttr "Sum" "_number" (mVar 1))))))
abbrev F_eq : FM := runF 0 2 m_eq
theorem ok_eq (F : FunD K "__eq__" "Sum.__eq__" (defArgs s_eq) (defBody s_eq) (defScope s_eq) [] [] f fd) (nb : NB mg) (er : SumF K mg at_ C) (KY : KSys K) : FnOk P w K mg base CX0 1 f fd p_eq (spF ⟨K, mg, at_⟩ 0 2 F_eq) :=
  fnOm F sc_eq (by decide) fun cdv A outer s H E hr => (b_one (v_ret (q_and (q_isiC er.iso nb.isinstance (q_var (pv 1)) (pe_own er.c)) (q_and (q_cmp (op_eqX KY hr.u64) r_eq (q_fld (er.fld2 (by simp)) (q_var (pv 0))) (q_fld (er.fld2 (by simp)) (q_var (pv 1))) (nomark _)) (q_one (q_cmp (op_eqX KY hr.u64) r_eq (q_fld (er.fld2 (by simp)) (q_var (pv 0))) (q_fld (er.fld2 (by simp)) (q_var (pv 1))) (nomark _)))))))
abbrev s_law_made : Stmt := top 38
abbrev N_law_made : List Str := ["_law_one"]
abbrev p_law_made : List Str := ["_law_one"]
theorem sc_law_made : FnScope N_law_made p_law_made (defScope s_law_made) := ⟨rfl, rfl, rfl, by decide +kernel, rfl, by decide +kernel, by decide +kernel⟩
def m_law_made : M Fl := (mRet (mMake (okI F_init) dd2 (mCons (mOp ixF (mVar 0) (mC (.int 0))) (mCons (mOp ixF (mVar 0) (mC (.int 1))) mNil))))
abbrev F_law_made : FM := runF 0 1 m_law_made
theorem ok_law_made (F : FunD K "_law_made" "_law_made" (defArgs s_law_made) (defBody s_law_made) (defScope s_law_made) [] [] f fd) (nb : NB mg) (er : SumF K mg at_ C) (c_Sum2 : CalC P w K mg base (L2.CX P w) 4 "Sum" C dvs2 (spI ⟨K, mg, at_⟩ "Sum" 3 F_init)) (dd2H : ∀ H, DDs ⟨K, mg, at_⟩ H dvs2 dd2) : FnG P w K mg base CX0 6 f fd p_law_made (spF ⟨K, mg, at_⟩ 0 1 F_law_made) :=
  fnGm F sc_law_made (by decide) fun cdv A outer s H E hr => (b_one (v_ret (q_mk c_Sum2 er.at0 hr.rm (by omega) passL dd2H (a_cons (q_op_ix (q_var (pv 0)) q_int) (a_cons (q_op_ix (q_var (pv 0)) q_int) a_nil)) (len_cons (len_cons len_nil)) rfl)))
abbrev s_law_pair : Stmt := top 39
abbrev N_law_pair : List Str := ["_law_made_here"]
abbrev p_law_pair : List Str := ["_law_made_here"]
theorem sc_law_pair : FnScope N_law_pair p_law_pair (defScope s_law_pair) := ⟨rfl, rfl, rfl, by decide +kernel, rfl, by decide +kernel, by decide +kernel⟩
def m_law_pair : M Fl := (mRet (mTup (mCons (mProp "Sum" F_parts (mVar 0)) (mCons (mProp "Sum" F_number (mVar 0)) mNil))))
abbrev F_law_pair : FM := runF 0 1 m_law_pair
theorem ok_law_pair (F : FunD K "_law_pair" "_law_pair" (defArgs s_law_pair) (defBody s_law_pair) (defScope s_law_pair) [] [] f fd) (nb : NB mg) (er : SumF K mg at_ C) (c_parts : CalP P w K mg base CX0 1 C "parts" (spF ⟨K, mg, at_⟩ 0 1 F_parts)) (c_number : CalP P w K mg base CX0 1 C "number" (spF ⟨K, mg, at_⟩ 0 1 F_number)) : FnG P w K mg base CX0 3 f fd p_law_pair (spF ⟨K, mg, at_⟩ 0 1 F_law_pair) :=
  fnGm F sc_law_pair (by decide) fun cdv A outer s H E hr => (b_one (v_ret (q_tup (a_cons (q_prop er.c er.cl c_parts hr.rm (by omega) pass0 (q_var (pv 0))) (a_cons (q_prop er.c er.cl c_number hr.rm (by omega) pass0 (q_var (pv 0))) a_nil)))))
abbrev s_law_is_made : Stmt := top 43
abbrev N_law_is_made : List Str := ["_law_made_here", "_law_one", "_law_values"]
abbrev p_law_is_made : List Str := ["_law_made_here", "_law_one", "_law_values"]
theorem sc_law_is_made : FnScope N_law_is_made p_law_is_made (defScope s_law_is_made) := ⟨rfl, rfl, rfl, by decide +kernel, rfl, by decide +kernel, by decide +kernel⟩
def m_law_is_made : M Fl := (mRet (mAndV (mOp eqF (mFn reprF (mCons (mCall [] (okF F_law_pair) [] (mCons (mVar 0) mNil)) mNil)) (mFn reprF (mCons (mVar 1) mNil))) (mOp eqF (mFn reprF (mCons (mCallO "Sum" (okF F_call) (mVar 0) (mCons (mVar 2) mNil)) mNil)) (mFn reprF (mCons (mCall [] (okF F_law_comes) [] (mCons (mVar 1) (mCons (mVar 2) mNil))) mNil)))))
abbrev F_law_is_made : FM := runF 0 3 m_law_is_made
theorem ok_law_is_made (F : FunD K "_law_is_made" "_law_is_made" (defArgs s_law_is_made) (defBody s_law_is_made) (defScope s_law_is_made) [] [] f fd) (nb : NB mg) (er : SumF K mg at_ C) (c__law_pair : CalG P w K mg base CX0 3 "_law_pair" (spF ⟨K, mg, at_⟩ 0 1 F_law_pair)) {f_call : Addr} (c_call : CalM P w K mg base (L2.CX P w) 3 C "__call__" f_call (spF ⟨K, mg, at_⟩ 0 2 F_call)) (c__law_comes : CalG P w K mg base CX0 1 "_law_comes" (spF ⟨K, mg, at_⟩ 0 2 F_law_comes)) (KY : KSys K) : FnG P w K mg base CX0 5 f fd p_law_is_made (spF ⟨K, mg, at_⟩ 0 3 F_law_is_made) :=
  fnGm F sc_law_is_made (by decide) fun cdv A outer s H E hr => (b_one (v_ret (q_and (q_cmp (op_eqX KY hr.u64) r_eq (q_callB (call_repr KY hr.gd hr.units) r_repr nb.repr bt_repr (a_cons (q_cG0 c__law_pair hr (by omega) pass0 (by decide) rfl (c_nil (a_cons (q_var (pv 0)) a_nil) (len_cons len_nil)) rfl) a_nil)) (q_callB (call_repr KY hr.gd hr.units) r_repr nb.repr bt_repr (a_cons (q_var (pv 1)) a_nil)) (nomark _)) (q_one (q_cmp (op_eqX KY hr.u64) r_eq (q_callB (call_repr KY hr.gd hr.units) r_repr nb.repr bt_repr (a_cons (q_callO0 er.c c_call hr.rm (by omega) passL (q_var (pv 0)) (a_cons (q_var (pv 2)) a_nil) (len_cons len_nil) rfl) a_nil)) (q_callB (call_repr KY hr.gd hr.units) r_repr nb.repr bt_repr (a_cons (q_cG0 c__law_comes hr (by omega) pass0 (by decide) rfl (c_nil (a_cons (q_var (pv 1)) (a_cons (q_var (pv 2)) a_nil)) (len_cons (len_cons len_nil))) rfl) a_nil)) (nomark _))))))
abbrev s_law_right : Stmt := top 44
abbrev N_law_right : List Str := ["_law_pot_here", "_law_names_here", "_law_one", "_law_other", "_law_made_here", "_law_its", "_law_many_here", "_law_values", "_law_name", "_law_plain", "_law_rows", "_law_heard", "_law_due"]
abbrev p_law_right : List Str := ["_law_pot_here"]
theorem sc_law_right : FnScope N_law_right p_law_right (defScope s_law_right) := ⟨rfl, rfl, rfl, by decide +kernel, rfl, by decide +kernel, by decide +kernel⟩
def m_law_right : M Fl := (mSeq (mSet 1 (mCall [0] (okF F_law_names) [] (mCons (mC (.int 5)) mNil)))
  (mSeq (mPar 2 3 (mCons (mCall [0] (okF F_law_some_sum) [] (mCons (mVar 1) (mCons (mC (.int 4)) mNil))) (mCons (mCall [0] (okF F_law_some_sum) [] (mCons (mVar 1) (mCons (mC (.int 4)) mNil))) mNil)))
  (mSeq (mPar3 4 5 6 (mCons (mCall [] (okF F_law_made) [] (mCons (mVar 2) mNil)) (mCons (mCall [] (okF F_law_made) [] (mCons (mVar 3) mNil)) (mCons (mCall [0] (okF F_law_of) [] (mCons (mLst (mCons (mC (.int 0)) (mCons (mC (.int 1)) (mCons (mUn negF (mC (.int 1))) (mCons (mC (.int 2)) (mCons (mUn negF (mC (.int 3))) (mCons (mC (.int 7)) (mCons (mC (.int 99)) (mCons (mUn negF (mC (.int 100))) mNil))))))))) mNil)) mNil))))
  (mSeq (mSet 7 (mFn (fun ds => (dictO ds).map Dat.dic) (mCons (mLc [8] (mSeqO seqD (mOp addF (mVar 1) (mLst (mCons (mC (.str "zq")) mNil)))) (setD 8) (ret true) (mTup (mCons (mVar 8) (mCons (mCall [0] (okF F_law_of) [] (mCons (mLst (mCons (mC (.int 0)) (mCons (mC (.int 1)) (mCons (mUn negF (mC (.int 1))) (mCons (mC (.int 5)) (mCons (mC (.int 12)) (mCons (mUn negF (mC (.int 7))) (mCons (mC (.int 999)) (mCons (mOp powF (mC (.int 10)) (mC (.int 8))) mNil))))))))) mNil)) mNil)))) mNil)))
  (mSeq (mSet 9 (mTup (mCons (mTup mNil) (mCons (mVar 6) mNil))))
  (mSeq (mOwn 10 (mLstN (mCons (mTup (mCons (mOp (opOwn "Sum" F_add F_radd (fun _ _ => none)) (mVar 4) (mVar 5)) (mCons (mCall [] (okF F_law_plus) [] (mCons (mVar 2) (mCons (mVar 3) mNil))) mNil))) (mCons (mTup (mCons (mOp (opOwn "Sum" F_sub F_rsub (fun _ _ => none)) (mVar 4) (mVar 5)) (mCons (mCall [] (okF F_law_plus) [] (mCons (mVar 2) (mCons (mCall [] (okF F_law_times) [] (mCons (mVar 3) (mCons (mUn negF (mC (.int 1))) mNil))) mNil))) mNil))) mNil))))
  (mSeq (mOwn 10 (mOpN catN (mFz 10) (mLst (mCons (mTup (mCons (mUn (unOwn "Sum" F_neg (fun _ => none)) (mVar 4)) (mCons (mCall [] (okF F_law_times) [] (mCons (mVar 2) (mCons (mUn negF (mC (.int 1))) mNil))) mNil))) (mCons (mTup (mCons (mOp (opOwn "Sum" F_mul F_rmul (fun _ _ => none)) (mVar 4) (mVar 6)) (mCons (mCall [] (okF F_law_times) [] (mCons (mVar 2) (mCons (mVar 6) mNil))) mNil))) mNil)))))
  (mSeq (mDrop (mAppend 10 (mTup (mCons (mOp (opOwn "Sum" F_mul F_rmul (fun _ _ => none)) (mVar 6) (mVar 4)) (mCons (mCall [] (okF F_law_times) [] (mCons (mVar 2) (mCons (mVar 6) mNil))) mNil)))))
  (mSeq (mOwn 10 (mOpN catN (mFz 10) (mLst (mCons (mTup (mCons (mOp (opOwn "Sum" F_add F_radd (fun _ _ => none)) (mVar 4) (mVar 6)) (mCons (mCall [] (okF F_law_plus) [] (mCons (mVar 2) (mCons (mVar 9) mNil))) mNil))) (mCons (mTup (mCons (mOp (opOwn "Sum" F_add F_radd (fun _ _ => none)) (mVar 6) (mVar 4)) (mCons (mCall [] (okF F_law_plus) [] (mCons (mVar 2) (mCons (mVar 9) mNil))) mNil))) mNil)))))
  (mSeq (mOwn 10 (mOpN catN (mFz 10) (mLst (mCons (mTup (mCons (mOp (opOwn "Sum" F_sub F_rsub (fun _ _ => none)) (mVar 4) (mVar 6)) (mCons (mCall [] (okF F_law_plus) [] (mCons (mVar 2) (mCons (mTup (mCons (mTup mNil) (mCons (mUn negF (mVar 6)) mNil))) mNil))) mNil))) (mCons (mTup (mCons (mOp (opOwn "Sum" F_sub F_rsub (fun _ _ => none)) (mVar 6) (mVar 4)) (mCons (mCall [] (okF F_law_plus) [] (mCons (mVar 9) (mCons (mCall [] (okF F_law_times) [] (mCons (mVar 2) (mCons (mUn negF (mC (.int 1))) mNil))) mNil))) mNil))) mNil)))))
  (mSeq (mIf (mNotT (mTest (mFn allF (mCons (mLc [11, 12] (mSeqO seqD (mFz 10)) (tupT 2 (consT (setD 11) (consT (setD 12) nilT))) (ret true) (mCall [] (okF F_law_is_made) [] (mCons (mVar 11) (mCons (mVar 12) (mCons (mVar 7) mNil))))) mNil)))) (mRet (mC (.bl false))) mNext)
  (mSeq (mIf (mOrT (mTest (mOp neF (mCallO "Sum" (okF F_call) (mOp (opOwn "Sum" F_add F_radd (fun _ _ => none)) (mVar 4) (mVar 5)) (mCons (mVar 7) mNil)) (mOp addF (mCallO "Sum" (okF F_call) (mVar 4) (mCons (mVar 7) mNil)) (mCallO "Sum" (okF F_call) (mVar 5) (mCons (mVar 7) mNil))))) (mTest (mOp neF (mCallO "Sum" (okF F_call) (mOp (opOwn "Sum" F_mul F_rmul (fun _ _ => none)) (mVar 4) (mVar 6)) (mCons (mVar 7) mNil)) (mOp mulF (mCallO "Sum" (okF F_call) (mVar 4) (mCons (mVar 7) mNil)) (mVar 6))))) (mRet (mC (.bl false))) mNext)
  (mSeq (mIf (mOrT (mTest (mOp (neOwn "Sum" F_eq neF) (mOp (opOwn "Sum" F_add F_radd (fun _ _ => none)) (mVar 4) (mVar 5)) (mOp (opOwn "Sum" F_add F_radd (fun _ _ => none)) (mVar 5) (mVar 4)))) (mOrT (mTest (mOp (neOwn "Sum" F_eq neF) (mOp (opOwn "Sum" F_add F_radd (fun _ _ => none)) (mOp (opOwn "Sum" F_sub F_rsub (fun _ _ => none)) (mVar 4) (mVar 5)) (mVar 5)) (mVar 4))) (mOrT (mTest (mOp (neOwn "Sum" F_eq neF) (mOp (opOwn "Sum" F_sub F_rsub (fun _ _ => none)) (mVar 4) (mVar 4)) (mMake (okI F_init) dd0 mNil))) (mTest (mOp (neOwn "Sum" F_eq neF) (mOp (opOwn "Sum" F_add F_radd (fun _ _ => none)) (mVar 4) (mMake (okI F_init) dd0 mNil)) (mVar 4)))))) (mRet (mC (.bl false))) mNext)
  (mRet (mAndV (mOp eqF (mFn reprF (mCons (mCall [] (okF F_law_pair) [] (mCons (mVar 4) mNil)) mNil)) (mFn reprF (mCons (mVar 2) mNil))) (mOp eqF (mFn reprF (mCons (mCall [] (okF F_law_pair) [] (mCons (mVar 5) mNil)) mNil)) (mFn reprF (mCons (mVar 3) mNil))))))))))))))))))
abbrev F_law_right : FM := runF 1 13 m_law_right
theorem ok_law_right (F : FunD K "_law_right" "_law_right" (defArgs s_law_right) (defBody s_law_right) (defScope s_law_right) [] [] f fd) (nb : NB mg) (er : SumF K mg at_ C) (c__law_names : CalG P w K mg base CX0 3 "_law_names" (spF ⟨K, mg, at_⟩ 1 2 F_law_names)) (c__law_some_sum : CalG P w K mg base CX0 4 "_law_some_sum" (spF ⟨K, mg, at_⟩ 1 3 F_law_some_sum)) (c__law_made : CalG P w K mg base CX0 6 "_law_made" (spF ⟨K, mg, at_⟩ 0 1 F_law_made)) (c__law_of : CalG P w K mg base CX0 2 "_law_of" (spF ⟨K, mg, at_⟩ 1 2 F_law_of)) {f_add : Addr} (c_add : CalM P w K mg base CX0 8 C "__add__" f_add (spF ⟨K, mg, at_⟩ 0 2 F_add)) {f_radd : Addr} (c_radd : CalM P w K mg base CX0 6 C "__radd__" f_radd (spF ⟨K, mg, at_⟩ 0 2 F_radd)) (c__law_plus : CalG P w K mg base CX0 2 "_law_plus" (spF ⟨K, mg, at_⟩ 0 2 F_law_plus)) {f_sub : Addr} (c_sub : CalM P w K mg base CX0 8 C "__sub__" f_sub (spF ⟨K, mg, at_⟩ 0 2 F_sub)) {f_rsub : Addr} (c_rsub : CalM P w K mg base CX0 10 C "__rsub__" f_rsub (spF ⟨K, mg, at_⟩ 0 2 F_rsub)) (c__law_times : CalG P w K mg base CX0 2 "_law_times" (spF ⟨K, mg, at_⟩ 0 2 F_law_times)) {f_neg : Addr} (c_neg : CalM P w K mg base CX0 8 C "__neg__" f_neg (spF ⟨K, mg, at_⟩ 0 1 F_neg)) {f_mul : Addr} (c_mul : CalM P w K mg base CX0 8 C "__mul__" f_mul (spF ⟨K, mg, at_⟩ 0 2 F_mul)) {f_rmul : Addr} (c_rmul : CalM P w K mg base CX0 8 C "__rmul__" f_rmul (spF ⟨K, mg, at_⟩ 0 2 F_rmul)) (c__law_is_made : CalG P w K mg base CX0 5 "_law_is_made" (spF ⟨K, mg, at_⟩ 0 3 F_law_is_made)) {f_call : Addr} (c_call : CalM P w K mg base (L2.CX P w) 3 C "__call__" f_call (spF ⟨K, mg, at_⟩ 0 2 F_call)) {f_eq : Addr} (c_eq : CalM P w K mg base CX0 1 C "__eq__" f_eq (spF ⟨K, mg, at_⟩ 0 2 F_eq)) (c_Sum0 : CalC P w K mg base (L2.CX P w) 4 "Sum" C dvs0 (spI ⟨K, mg, at_⟩ "Sum" 3 F_init)) (dd0H : ∀ H, DDs ⟨K, mg, at_⟩ H dvs0 dd0) (c__law_pair : CalG P w K mg base CX0 3 "_law_pair" (spF ⟨K, mg, at_⟩ 0 1 F_law_pair)) (o_add : OpsF K C "add" f_add f_radd) (o_sub : OpsF K C "sub" f_sub f_rsub) (o_mul : OpsF K C "mul" f_mul f_rmul) (KY : KSys K) : FnG P w K mg base CX0 12 f fd p_law_right (spF ⟨K, mg, at_⟩ 1 1 F_law_right) :=
  fnGm F sc_law_right (by decide) fun cdv A outer s H E hr => (b_cons (v_set (i := 1) sc_law_right.nd rfl (Or.inl rfl) (q_cG0 c__law_names hr (by omega) pass0 (by decide) rfl (c_cons (pv 0) (c_nil (a_cons q_int a_nil) (len_cons len_nil))) rfl))
  (b_cons (v_par (i := 2) (j := 3) rfl sc_law_right.nd rfl rfl (by decide) rfl rfl (a_cons (q_cG0 c__law_some_sum hr (by omega) pass0 (by decide) rfl (c_cons (pv 0) (c_nil (a_cons (q_var (pv 1)) (a_cons q_int a_nil)) (len_cons (len_cons len_nil)))) rfl) (a_cons (q_cG0 c__law_some_sum hr (by omega) pass0 (by decide) rfl (c_cons (pv 0) (c_nil (a_cons (q_var (pv 1)) (a_cons q_int a_nil)) (len_cons (len_cons len_nil)))) rfl) a_nil)) (by with_unfolding_all rfl))
  (b_cons (v_par3 (i := 4) (j := 5) (l := 6) rfl sc_law_right.nd rfl rfl rfl (by decide) (by decide) (by decide) rfl rfl rfl (a_cons (q_cG0 c__law_made hr (by omega) pass0 (by decide) rfl (c_nil (a_cons (q_var (pv 2)) a_nil) (len_cons len_nil)) rfl) (a_cons (q_cG0 c__law_made hr (by omega) pass0 (by decide) rfl (c_nil (a_cons (q_var (pv 3)) a_nil) (len_cons len_nil)) rfl) (a_cons (q_cG0 c__law_of hr (by omega) pass0 (by decide) rfl (c_cons (pv 0) (c_nil (a_cons (q_lst (a_cons q_int (a_cons q_int (a_cons (q_un un_neg r_neg q_int) (a_cons q_int (a_cons (q_un un_neg r_neg q_int) (a_cons q_int (a_cons q_int (a_cons (q_un un_neg r_neg q_int) a_nil))))))))) a_nil) (len_cons len_nil))) rfl) a_nil))) (by with_unfolding_all rfl))
  (b_cons (v_set (i := 7) sc_law_right.nd rfl (Or.inr rfl) (q_callTyF (call_dictZ rfl) r_dict nb.dict bt_dict (a_cons (q_lc rfl sc_law_right.nd (own := [("_law_name", 8)]) (vi_any (q_opF op_addZ r_add (q_var (pv 1)) (q_lst (a_cons q_str a_nil)))) (blkOk_by (N := N_law_right) (sc := defScope s_law_right) (by decide +kernel)) (fun _ _ _ _ _ => pg_name (i := 8) sc_law_right.nd rfl (Or.inl rfl)) (gw_name (by decide)) (fun _ _ _ _ _ => ts_nil) (fun _ _ _ _ _ => (q_tup (a_cons (q_var (pv 8)) (a_cons (q_cG0 c__law_of hr (by omega) pass0 (by decide) rfl (c_cons (pv 0) (c_nil (a_cons (q_lst (a_cons q_int (a_cons q_int (a_cons (q_un un_neg r_neg q_int) (a_cons q_int (a_cons q_int (a_cons (q_un un_neg r_neg q_int) (a_cons q_int (a_cons (q_op op_powA r_pow q_int q_int) a_nil))))))))) a_nil) (len_cons len_nil))) rfl) a_nil))))) a_nil)))
  (b_cons (v_set (i := 9) sc_law_right.nd rfl (Or.inl rfl) (q_tup (a_cons (q_tup a_nil) (a_cons (q_var (pv 6)) a_nil))))
  (b_cons (v_own (i := 10) sc_law_right.nd rfl (Or.inl rfl) (n_lst (a_cons (q_tup (a_cons (q_own_add o_add er.c c_add c_radd hr.rm (by omega) pass0 (q_var (pv 4)) (q_var (pv 5))) (a_cons (q_cG0 c__law_plus hr (by omega) pass0 (by decide) rfl (c_nil (a_cons (q_var (pv 2)) (a_cons (q_var (pv 3)) a_nil)) (len_cons (len_cons len_nil))) rfl) a_nil))) (a_cons (q_tup (a_cons (q_own_sub o_sub er.c c_sub c_rsub hr.rm (by omega) pass0 (q_var (pv 4)) (q_var (pv 5))) (a_cons (q_cG0 c__law_plus hr (by omega) pass0 (by decide) rfl (c_nil (a_cons (q_var (pv 2)) (a_cons (q_cG0 c__law_times hr (by omega) pass0 (by decide) rfl (c_nil (a_cons (q_var (pv 3)) (a_cons (q_un un_neg r_neg q_int) a_nil)) (len_cons (len_cons len_nil))) rfl) a_nil)) (len_cons (len_cons len_nil))) rfl) a_nil))) a_nil))))
  (b_cons (v_own (i := 10) sc_law_right.nd rfl (Or.inl rfl) (n_cat (q_fz (pv 10)) (q_lst (a_cons (q_tup (a_cons (q_neg (f1 := fun _ => none) (r1 := fun _ _ _ => False) er.c c_neg hr.rm (by omega) pass0 (q_var (pv 4))) (a_cons (q_cG0 c__law_times hr (by omega) pass0 (by decide) rfl (c_nil (a_cons (q_var (pv 2)) (a_cons (q_un un_neg r_neg q_int) a_nil)) (len_cons (len_cons len_nil))) rfl) a_nil))) (a_cons (q_tup (a_cons (q_own_mul o_mul er.c c_mul c_rmul hr.rm (by omega) pass0 (q_var (pv 4)) (q_var (pv 6))) (a_cons (q_cG0 c__law_times hr (by omega) pass0 (by decide) rfl (c_nil (a_cons (q_var (pv 2)) (a_cons (q_var (pv 6)) a_nil)) (len_cons (len_cons len_nil))) rfl) a_nil))) a_nil)))))
  (b_cons (v_expr (q_append (pv 10) (q_tup (a_cons (q_own_mul o_mul er.c c_mul c_rmul hr.rm (by omega) pass0 (q_var (pv 6)) (q_var (pv 4))) (a_cons (q_cG0 c__law_times hr (by omega) pass0 (by decide) rfl (c_nil (a_cons (q_var (pv 2)) (a_cons (q_var (pv 6)) a_nil)) (len_cons (len_cons len_nil))) rfl) a_nil)))))
  (b_cons (v_own (i := 10) sc_law_right.nd rfl (Or.inl rfl) (n_cat (q_fz (pv 10)) (q_lst (a_cons (q_tup (a_cons (q_own_add o_add er.c c_add c_radd hr.rm (by omega) pass0 (q_var (pv 4)) (q_var (pv 6))) (a_cons (q_cG0 c__law_plus hr (by omega) pass0 (by decide) rfl (c_nil (a_cons (q_var (pv 2)) (a_cons (q_var (pv 9)) a_nil)) (len_cons (len_cons len_nil))) rfl) a_nil))) (a_cons (q_tup (a_cons (q_own_add o_add er.c c_add c_radd hr.rm (by omega) pass0 (q_var (pv 6)) (q_var (pv 4))) (a_cons (q_cG0 c__law_plus hr (by omega) pass0 (by decide) rfl (c_nil (a_cons (q_var (pv 2)) (a_cons (q_var (pv 9)) a_nil)) (len_cons (len_cons len_nil))) rfl) a_nil))) a_nil)))))
  (b_cons (v_own (i := 10) sc_law_right.nd rfl (Or.inl rfl) (n_cat (q_fz (pv 10)) (q_lst (a_cons (q_tup (a_cons (q_own_sub o_sub er.c c_sub c_rsub hr.rm (by omega) pass0 (q_var (pv 4)) (q_var (pv 6))) (a_cons (q_cG0 c__law_plus hr (by omega) pass0 (by decide) rfl (c_nil (a_cons (q_var (pv 2)) (a_cons (q_tup (a_cons (q_tup a_nil) (a_cons (q_un un_neg r_neg (q_var (pv 6))) a_nil))) a_nil)) (len_cons (len_cons len_nil))) rfl) a_nil))) (a_cons (q_tup (a_cons (q_own_sub o_sub er.c c_sub c_rsub hr.rm (by omega) pass0 (q_var (pv 6)) (q_var (pv 4))) (a_cons (q_cG0 c__law_plus hr (by omega) pass0 (by decide) rfl (c_nil (a_cons (q_var (pv 9)) (a_cons (q_cG0 c__law_times hr (by omega) pass0 (by decide) rfl (c_nil (a_cons (q_var (pv 2)) (a_cons (q_un un_neg r_neg q_int) a_nil)) (len_cons (len_cons len_nil))) rfl) a_nil)) (len_cons (len_cons len_nil))) rfl) a_nil))) a_nil)))))
  (b_cons (v_if (t_not (t_val (q_callB (cr_all rfl) r_all nb.all bt_all (a_cons (q_lc rfl sc_law_right.nd (own := [("_law_heard", 11), ("_law_due", 12)]) (vi_any (q_fz (pv 10))) (blkOk_by (N := N_law_right) (sc := defScope s_law_right) (by decide +kernel)) (fun _ _ _ _ _ => (pg_tup rfl (pgs_cons (pg_name (i := 11) sc_law_right.nd rfl (Or.inl rfl)) (pgs_cons (pg_name (i := 12) sc_law_right.nd rfl (Or.inl rfl)) pgs_nil)))) (gw_tup (gw_cons (gw_name (by decide)) (gw_cons (gw_name (by decide)) gw_nil))) (fun _ _ _ _ _ => ts_nil) (fun _ _ _ _ _ => (q_cG0 c__law_is_made hr (by omega) pass0 (by decide) rfl (c_nil (a_cons (q_var (pv 11)) (a_cons (q_var (pv 12)) (a_cons (q_var (pv 7)) a_nil))) (len_cons (len_cons (len_cons len_nil)))) rfl))) a_nil)))) (b_one (v_ret q_bl)) b_nil)
  (b_cons (v_if (t_w (w_or (t_cmp (op_neX KY hr.u64) r_ne (q_callO0 er.c c_call hr.rm (by omega) passL (q_own_add o_add er.c c_add c_radd hr.rm (by omega) pass0 (q_var (pv 4)) (q_var (pv 5))) (a_cons (q_var (pv 7)) a_nil) (len_cons len_nil) rfl) (q_opF op_addZ r_add (q_callO0 er.c c_call hr.rm (by omega) passL (q_var (pv 4)) (a_cons (q_var (pv 7)) a_nil) (len_cons len_nil) rfl) (q_callO0 er.c c_call hr.rm (by omega) passL (q_var (pv 5)) (a_cons (q_var (pv 7)) a_nil) (len_cons len_nil) rfl)) (nomark _)) (w_or1 (t_cmp (op_neX KY hr.u64) r_ne (q_callO0 er.c c_call hr.rm (by omega) passL (q_own_mul o_mul er.c c_mul c_rmul hr.rm (by omega) pass0 (q_var (pv 4)) (q_var (pv 6))) (a_cons (q_var (pv 7)) a_nil) (len_cons len_nil) rfl) (q_op op_mulW r_mul (q_callO0 er.c c_call hr.rm (by omega) passL (q_var (pv 4)) (a_cons (q_var (pv 7)) a_nil) (len_cons len_nil) rfl) (q_var (pv 6))) (nomark _))))) (b_one (v_ret q_bl)) b_nil)
  (b_cons (v_if (t_w (w_or (t_neOwn er.c er.ne er.mo c_eq hr.rm (by omega) pass0 (op_neX KY hr.u64) r_ne (q_own_add o_add er.c c_add c_radd hr.rm (by omega) pass0 (q_var (pv 4)) (q_var (pv 5))) (q_own_add o_add er.c c_add c_radd hr.rm (by omega) pass0 (q_var (pv 5)) (q_var (pv 4)))) (w_or (t_neOwn er.c er.ne er.mo c_eq hr.rm (by omega) pass0 (op_neX KY hr.u64) r_ne (q_own_add o_add er.c c_add c_radd hr.rm (by omega) pass0 (q_own_sub o_sub er.c c_sub c_rsub hr.rm (by omega) pass0 (q_var (pv 4)) (q_var (pv 5))) (q_var (pv 5))) (q_var (pv 4))) (w_or (t_neOwn er.c er.ne er.mo c_eq hr.rm (by omega) pass0 (op_neX KY hr.u64) r_ne (q_own_sub o_sub er.c c_sub c_rsub hr.rm (by omega) pass0 (q_var (pv 4)) (q_var (pv 4))) (q_mk0 c_Sum0 er.at0 hr.rm (by omega) passL dd0H rfl)) (w_or1 (t_neOwn er.c er.ne er.mo c_eq hr.rm (by omega) pass0 (op_neX KY hr.u64) r_ne (q_own_add o_add er.c c_add c_radd hr.rm (by omega) pass0 (q_var (pv 4)) (q_mk0 c_Sum0 er.at0 hr.rm (by omega) passL dd0H rfl)) (q_var (pv 4)))))))) (b_one (v_ret q_bl)) b_nil)
  (b_one (v_ret (q_and (q_cmp (op_eqX KY hr.u64) r_eq (q_callB (call_repr KY hr.gd hr.units) r_repr nb.repr bt_repr (a_cons (q_cG0 c__law_pair hr (by omega) pass0 (by decide) rfl (c_nil (a_cons (q_var (pv 4)) a_nil) (len_cons len_nil)) rfl) a_nil)) (q_callB (call_repr KY hr.gd hr.units) r_repr nb.repr bt_repr (a_cons (q_var (pv 2)) a_nil)) (nomark _)) (q_one (q_cmp (op_eqX KY hr.u64) r_eq (q_callB (call_repr KY hr.gd hr.units) r_repr nb.repr bt_repr (a_cons (q_cG0 c__law_pair hr (by omega) pass0 (by decide) rfl (c_nil (a_cons (q_var (pv 5)) a_nil) (len_cons len_nil)) rfl) a_nil)) (q_callB (call_repr KY hr.gd hr.units) r_repr nb.repr bt_repr (a_cons (q_var (pv 3)) a_nil)) (nomark _)))))))))))))))))))
abbrev s_law : Stmt := top 45
abbrev N_law : List Str := ["_law_script", "_law_place", "_law_pot_here", "_law_turn"]
abbrev p_law : List Str := ["_law_script"]
theorem sc_law : FnScope N_law p_law (defScope s_law) := ⟨rfl, rfl, rfl, by decide +kernel, rfl, by decide +kernel, by decide +kernel⟩
def m_law : M Fl := (mSeq (mFor (mSeqO seqD (mCall [] (okF F_law_places) [] (mCons (mVar 0) (mCons (mC (.int 6)) mNil)))) (setD 1) (mSeq (mOwn 2 (mCallN F_law_pot (mCons (mVar 0) (mCons (mVar 1) mNil))))
  (mIf (mNotT (mTest (mFn allF (mCons (mLc [3] (mItA rg1O (mCons (mC (.int 2)) mNil)) (setD 3) (ret true) (mCall [2] (okF F_law_right) [] mNil)) mNil)))) (mRet (mC (.bl false))) mNext)))
  (mRet (mC (.bl true))))
abbrev F_law : FM := runF 0 4 m_law
theorem ok_law (F : FunD K "law" "law" (defArgs s_law) (defBody s_law) (defScope s_law) [] [] f fd) (nb : NB mg) (c__law_places : CalG P w K mg base CX0 1 "_law_places" (spF ⟨K, mg, at_⟩ 0 2 F_law_places)) (c__law_pot : CalG P w K mg base CX0 1 "_law_pot" (spN ⟨K, mg, at_⟩ 2 F_law_pot)) (c__law_right : CalG P w K mg base CX0 12 "_law_right" (spF ⟨K, mg, at_⟩ 1 1 F_law_right)) : FnG P w K mg base CX0 13 f fd p_law (spF ⟨K, mg, at_⟩ 0 1 F_law) :=
  fnGm F sc_law (by decide) fun cdv A outer s H E hr => (b_cons (v_for PassesOwn.never rfl (vi_any (q_cG0 c__law_places hr (by omega) pass0 (by decide) rfl (c_nil (a_cons (q_var (pv 0)) (a_cons q_int a_nil)) (len_cons (len_cons len_nil))) rfl)) (vg_name (i := 1) sc_law.nd rfl (Or.inl rfl)) (b_cons (v_own (i := 2) sc_law.nd rfl (Or.inr rfl) (n_callG c__law_pot hr (by omega) pass0 (a_cons (q_var (pv 0)) (a_cons (q_var (pv 1)) a_nil)) (len_cons (len_cons len_nil)) rfl))
  (b_one (v_if (t_not (t_val (q_callB (cr_all rfl) r_all nb.all bt_all (a_cons (q_lc rfl sc_law.nd (own := [("_law_turn", 3)]) (vi_rng1 rfl nb.range (a_cons q_int a_nil)) (blkOk_by (N := N_law) (sc := defScope s_law) (by decide +kernel)) (fun _ _ _ _ _ => pg_name (i := 3) sc_law.nd rfl (Or.inl rfl)) (gw_name (by decide)) (fun _ _ _ _ _ => ts_nil) (fun _ _ _ _ _ => (q_cG0 c__law_right hr (by omega) pass0 (by decide) rfl (c_cons (pv 2) (c_nil a_nil len_nil)) rfl))) a_nil)))) (b_one (v_ret q_bl)) b_nil))))
  (b_one (v_ret q_bl)))
end
end K04

set_option Elab.async false
set_option linter.all false
set_option maxRecDepth 100000
set_option maxHeartbeats 0
namespace K04
open PySem PySem.Spec PyProof.Rows L2 GX DL
abbrev R : PySem.W.OpenRow := PySem.W.OpenLaw.row PySem.Challenge.rw_dialsums_k04_whole_sums_reckoned
def cS (K : PySem.W.Frag) : Addr := He.ga K "Sum"
abbrev s_einit : Stmt := inClass (top 10) 0
abbrev N_einit : List Str := ["self", "value"]
abbrev p_einit : List Str := ["self", "value"]
theorem sc_einit : FnScope N_einit p_einit (defScope s_einit) := ⟨rfl, rfl, rfl, by decide +kernel, rfl, by decide +kernel, by decide +kernel⟩
def fn : List He5.DefA := [
  ⟨fun K => He.ma K (He.ga K "DialError") "__init__", "__init__", "DialError.__init__", defArgs s_einit, defBody s_einit, defScope s_einit, [], []⟩,
  ⟨fun K => He.ma K (cS K) "__init__", "__init__", "Sum.__init__", defArgs s_init, defBody s_init, defScope s_init, [.adr (He.dflAt ("Sum", some "__init__") 0), .int 0], []⟩,
  ⟨fun K => pG K (cS K) "parts", "parts", "Sum.parts", defArgs s_parts, defBody s_parts, defScope s_parts, [], []⟩,
  ⟨fun K => pG K (cS K) "number", "number", "Sum.number", defArgs s_number, defBody s_number, defScope s_number, [], []⟩,
  ⟨fun K => He.ma K (cS K) "__call__", "__call__", "Sum.__call__", defArgs s_call, defBody s_call, defScope s_call, [], []⟩,
  ⟨fun K => He.ma K (cS K) "__add__", "__add__", "Sum.__add__", defArgs s_add, defBody s_add, defScope s_add, [], []⟩,
  ⟨fun K => He.ma K (cS K) "__radd__", "__radd__", "Sum.__radd__", defArgs s_radd, defBody s_radd, defScope s_radd, [], []⟩,
  ⟨fun K => He.ma K (cS K) "__sub__", "__sub__", "Sum.__sub__", defArgs s_sub, defBody s_sub, defScope s_sub, [], []⟩,
  ⟨fun K => He.ma K (cS K) "__rsub__", "__rsub__", "Sum.__rsub__", defArgs s_rsub, defBody s_rsub, defScope s_rsub, [], []⟩,
  ⟨fun K => He.ma K (cS K) "__neg__", "__neg__", "Sum.__neg__", defArgs s_neg, defBody s_neg, defScope s_neg, [], []⟩,
  ⟨fun K => He.ma K (cS K) "__mul__", "__mul__", "Sum.__mul__", defArgs s_mul, defBody s_mul, defScope s_mul, [], []⟩,
  ⟨fun K => He.ma K (cS K) "__rmul__", "__rmul__", "Sum.__rmul__", defArgs s_rmul, defBody s_rmul, defScope s_rmul, [], []⟩,
  ⟨fun K => He.ma K (cS K) "__eq__", "__eq__", "Sum.__eq__", defArgs s_eq, defBody s_eq, defScope s_eq, [], []⟩,
  ⟨fun K => He.ga K "is_integer", "is_integer", "is_integer", defArgs s_is_integer, defBody s_is_integer, defScope s_is_integer, [], []⟩,
  ⟨fun K => He.ga K "is_name", "is_name", "is_name", defArgs s_is_name, defBody s_is_name, defScope s_is_name, [], []⟩,
  ⟨fun K => He.ga K "is_ascending", "is_ascending", "is_ascending", defArgs s_is_ascending, defBody s_is_ascending, defScope s_is_ascending, [], []⟩,
  ⟨fun K => He.ga K "_is_part", "_is_part", "_is_part", defArgs s_is_part, defBody s_is_part, defScope s_is_part, [], []⟩,
  ⟨fun K => He.ga K "_are_parts", "_are_parts", "_are_parts", defArgs s_are_parts, defBody s_are_parts, defScope s_are_parts, [], []⟩,
  ⟨fun K => He.ga K "sum_of_counts", "sum_of_counts", "sum_of_counts", defArgs s_counted, defBody s_counted, defScope s_counted, [], []⟩,
  ⟨fun K => He.ga K "_added", "_added", "_added", defArgs s_added, defBody s_added, defScope s_added, [], []⟩,
  ⟨fun K => He.ga K "_times", "_times", "_times", defArgs s_times, defBody s_times, defScope s_times, [], []⟩,
  ⟨fun K => He.ga K "_are_values", "_are_values", "_are_values", defArgs s_are_values, defBody s_are_values, defScope s_are_values, [], []⟩,
  ⟨fun K => He.ga K "_law_pot", "_law_pot", "_law_pot", defArgs s_law_pot, defBody s_law_pot, defScope s_law_pot, [], []⟩,
  ⟨fun K => He.ga K "_law_take", "_law_take", "_law_take", defArgs s_law_take, defBody s_law_take, defScope s_law_take, [], []⟩,
  ⟨fun K => He.ga K "_law_of", "_law_of", "_law_of", defArgs s_law_of, defBody s_law_of, defScope s_law_of, [], []⟩,
  ⟨fun K => He.ga K "_law_some", "_law_some", "_law_some", defArgs s_law_some, defBody s_law_some, defScope s_law_some, [], []⟩,
  ⟨fun K => He.ga K "_law_names", "_law_names", "_law_names", defArgs s_law_names, defBody s_law_names, defScope s_law_names, [], []⟩,
  ⟨fun K => He.ga K "_law_places", "_law_places", "_law_places", defArgs s_law_places, defBody s_law_places, defScope s_law_places, [], []⟩,
  ⟨fun K => He.ga K "_law_sum", "_law_sum", "_law_sum", defArgs s_law_sum, defBody s_law_sum, defScope s_law_sum, [], []⟩,
  ⟨fun K => He.ga K "_law_plus", "_law_plus", "_law_plus", defArgs s_law_plus, defBody s_law_plus, defScope s_law_plus, [], []⟩,
  ⟨fun K => He.ga K "_law_times", "_law_times", "_law_times", defArgs s_law_times, defBody s_law_times, defScope s_law_times, [], []⟩,
  ⟨fun K => He.ga K "_law_made", "_law_made", "_law_made", defArgs s_law_made, defBody s_law_made, defScope s_law_made, [], []⟩,
  ⟨fun K => He.ga K "_law_pair", "_law_pair", "_law_pair", defArgs s_law_pair, defBody s_law_pair, defScope s_law_pair, [], []⟩,
  ⟨fun K => He.ga K "_law_many", "_law_many", "_law_many", defArgs s_law_many, defBody s_law_many, defScope s_law_many, [], []⟩,
  ⟨fun K => He.ga K "_law_some_sum", "_law_some_sum", "_law_some_sum", defArgs s_law_some_sum, defBody s_law_some_sum, defScope s_law_some_sum, [], []⟩,
  ⟨fun K => He.ga K "_law_comes", "_law_comes", "_law_comes", defArgs s_law_comes, defBody s_law_comes, defScope s_law_comes, [], []⟩,
  ⟨fun K => He.ga K "_law_is_made", "_law_is_made", "_law_is_made", defArgs s_law_is_made, defBody s_law_is_made, defScope s_law_is_made, [], []⟩,
  ⟨fun K => He.ga K "_law_right", "_law_right", "_law_right", defArgs s_law_right, defBody s_law_right, defScope s_law_right, [], []⟩,
  ⟨fun K => He.ga K "law", "law", "law", defArgs s_law, defBody s_law, defScope s_law, [], []⟩]
def fa : List He.Fa := [
  .glo "is_integer", .glo "is_name", .glo "is_ascending", .glo "_is_part", .glo "_are_parts", .glo "sum_of_counts", .glo "_added", .glo "_times", .glo "_are_values", .glo "_law_pot", .glo "_law_take", .glo "_law_of", .glo "_law_some", .glo "_law_names", .glo "_law_places", .glo "_law_sum", .glo "_law_plus", .glo "_law_times", .glo "_law_made", .glo "_law_pair", .glo "_law_many", .glo "_law_some_sum", .glo "_law_comes", .glo "_law_is_made", .glo "_law_right", .glo "law", .glo "Sum", .glo "DialError", .cls "Sum", .noat "Sum" "_parts", .noat "Sum" "_number", .noat "Sum" "_counts", .mkr "Sum", .glo "BadParts", .glo "BadNumber", .glo "BadValues", .free "len", .free "abs", .free "int", .free "bool", .free "str", .free "tuple", .free "list", .free "dict", .free "set", .free "repr", .free "isinstance", .free "range", .free "enumerate", .free "zip", .free "sorted", .free "sum", .free "max", .free "min", .free "all", .free "any", .free "ValueError"]
def fI (K : PySem.W.Frag) : Addr := He.ma K (He.ga K "DialError") "__init__"
def dfB (K : PySem.W.Frag) : Bool := match K.lookup (He.dflAt ("Sum", some "__init__") 0 K) with
  | some ⟨.type "tuple", none, .seq its _, _⟩ => decide (its.size = 0)
  | _ => false
def noL (K : PySem.W.Frag) : Bool := K.all fun p => !(p.2.cls == .type "list")
def xb (K : PySem.W.Frag) : Bool := (excB K (He.ga K "BadParts") (fI K) && excB K (He.ga K "BadNumber") (fI K) && excB K (He.ga K "BadValues") (fI K)) && ((cmB K (cS K) "__call__" && cmB K (cS K) "__add__" && cmB K (cS K) "__radd__" && cmB K (cS K) "__sub__" && cmB K (cS K) "__rsub__" && cmB K (cS K) "__neg__" && cmB K (cS K) "__mul__" && cmB K (cS K) "__rmul__" && cmB K (cS K) "__eq__") && ((propB K (cS K) "parts" && propB K (cS K) "number") && ((opsB K (cS K) "add" && opsB K (cS K) "sub" && opsB K (cS K) "mul") && ((isoKB K (cS K) && decide (PySem.W.findIn K (.ref (cS K)) "__ne__" = some (some (.builtin "object.__ne__")))) && (dfB K && noL K)))))
def loose : List Str := ([("_wall" : Str), ("DialError" : Str), ("BadParts" : Str), ("BadNumber" : Str), ("BadValues" : Str), ("BadText" : Str), ("BadName" : Str), ("BadDial" : Str), ("Sum" : Str), ("is_integer" : Str), ("is_name" : Str), ("is_ascending" : Str), ("_is_part" : Str), ("_are_parts" : Str), ("sum_of_counts" : Str), ("_added" : Str), ("_times" : Str), ("_are_values" : Str), ("_law_pot" : Str), ("_law_take" : Str)] : List Str) ++ ([("_law_of" : Str), ("_law_some" : Str), ("_law_names" : Str), ("_law_places" : Str), ("_law_sum" : Str), ("_law_plus" : Str), ("_law_times" : Str), ("_law_made" : Str), ("_law_pair" : Str), ("_law_many" : Str), ("_law_some_sum" : Str), ("_law_comes" : Str), ("_law_is_made" : Str), ("_law_right" : Str), ("is_between" : Str), ("is_dial" : Str), ("is_figures" : Str), ("_term" : Str), ("_read_terms" : Str), ("_read_term" : Str)] : List Str) ++ ([("GREATEST_DIAL" : Str)] : List Str)
abbrev hk : PySem.W.Hook := hookY 6 xb fa fn
def ob (s : PySem.W.SharedT) : He.AlD := obsYG 6 xb fa fn (HandSHeadRun.getT s)
theorem ob_eq (s : PySem.W.SharedT) : ob s = hk.obs s.abs := obsYG_eq (HandSHeadRun.getT_eq s)
theorem run (w : World) : HandSHeadRun.RunEq R (PySem.W.view R.prog [45]) hk ob 20000 loose w := by
  intro os
  kernel_rfl
end K04

set_option Elab.async false
set_option linter.all false
set_option maxRecDepth 100000
set_option maxHeartbeats 4000000
namespace K04
open PySem PySem.Spec PyProof.Rows L2 GX DL
section
variable {P : Program} {w : World} {K : PySem.W.Frag} {h : Heap} {mg : Str → Option Value} {base : Heap} {f : Addr} {fd : FuncData}
theorem ok_einit (F : FunD K "__init__" "DialError.__init__" (defArgs s_einit) (defBody s_einit) (defScope s_einit) [] [] f fd) : FnOk P w K mg base CX0 1 f fd p_einit (spInit K) := by
  refine fnO0 F sc_einit (fun vs H Q E h => ?_) (fun cdv A outer s H vs Q E hr h => ?_)
  · obtain ⟨a, C, v, rfl, _⟩ := h
    rfl
  · obtain ⟨a, C, v, rfl, ox, noV, ha, k⟩ := h
    refine ⟨_, (pss_one (ps_ost (pv 0) (pv 1))), ?_⟩
    exact ⟨_, rfl, _, rfl, a, C, rfl, ox, noV, .inl ⟨ha, k⟩⟩
def atS (K : PySem.W.Frag) : Addr → Nat := fun a => if a = cS K then 3 else 0
theorem nb_of (X : K.In h) (G : h.Ns mainGlobals mg) (c : SaysY xb fa fn K) : NB mg := by
  have fr : ∀ (x : Str), He.Fa.free x ∈ fa → mg x = none := fun x e => He.free_ok X G (c.fact e)
  exact ⟨fr _ (List.mem_of_getElem? (i := 36) rfl), fr _ (List.mem_of_getElem? (i := 37) rfl), fr _ (List.mem_of_getElem? (i := 38) rfl), fr _ (List.mem_of_getElem? (i := 39) rfl), fr _ (List.mem_of_getElem? (i := 40) rfl), fr _ (List.mem_of_getElem? (i := 41) rfl), fr _ (List.mem_of_getElem? (i := 42) rfl), fr _ (List.mem_of_getElem? (i := 43) rfl), fr _ (List.mem_of_getElem? (i := 44) rfl), fr _ (List.mem_of_getElem? (i := 45) rfl), fr _ (List.mem_of_getElem? (i := 46) rfl), fr _ (List.mem_of_getElem? (i := 47) rfl), fr _ (List.mem_of_getElem? (i := 48) rfl), fr _ (List.mem_of_getElem? (i := 49) rfl), fr _ (List.mem_of_getElem? (i := 50) rfl), fr _ (List.mem_of_getElem? (i := 51) rfl), fr _ (List.mem_of_getElem? (i := 52) rfl), fr _ (List.mem_of_getElem? (i := 53) rfl), fr _ (List.mem_of_getElem? (i := 54) rfl), fr _ (List.mem_of_getElem? (i := 55) rfl), fr _ (List.mem_of_getElem? (i := 56) rfl)⟩
theorem er_of (X : K.In h) (G : h.Ns mainGlobals mg) (c : SaysY xb fa fn K) : SumF K mg (atS K) (cS K) ∧ True := by
  have x := c.checks.2.2
  obtain ⟨x1, x⟩ := He.ba x
  obtain ⟨x2, x⟩ := He.ba x
  obtain ⟨x3, x⟩ := He.ba x
  obtain ⟨x4, x⟩ := He.ba x
  obtain ⟨x5, x6⟩ := He.ba x
  obtain ⟨x5, x7⟩ := He.ba x5
  have hc : mg "Sum" = some (.ref (cS K)) := He.glo_ok X G (c.fact (f := .glo "Sum") (List.mem_of_getElem? (i := 26) rfl))
  have cl : Cls K (cS K) := He.cls_ok (x := "Sum") (c.fact (List.mem_of_getElem? (i := 28) rfl))
  refine ⟨⟨hc, cl, He.noat_ok (x := "Sum") (c.fact (List.mem_of_getElem? (i := 29) rfl)), He.noat_ok (x := "Sum") (c.fact (List.mem_of_getElem? (i := 30) rfl)), He.noat_ok (x := "Sum") (c.fact (List.mem_of_getElem? (i := 31) rfl)), if_pos rfl, iso_ok hc cl x5, of_decide_eq_true x7, ?_⟩, trivial⟩
  obtain ⟨_, z⟩ := He.ba x5
  obtain ⟨_, z⟩ := He.ba z
  obtain ⟨z, _⟩ := He.ba z
  exact of_decide_eq_true (He.ba z).2
end
section
variable {P : Program} {w : World} {K : PySem.W.Frag} {h : Heap} {mg : Str → Option Value} {base : Heap}
theorem dd0_of (x : dfB K = true) (H : Hp) : DDs ⟨K, mg, atS K⟩ H [V.ref (He.dflAt ("Sum", some "__init__") 0 K), .int 0] dd0 := by
  unfold dfB at x
  split at x
  · rename_i its n sl e
    have z : its.toList = [] := List.length_eq_zero_iff.mp (by rw [Array.length_toList]; exact of_decide_eq_true x)
    exact .cons (.tup (xs := []) (.inr ⟨_, its, n, e, rfl, rfl, by rw [of_decide_eq_true x]; exact Nat.zero_le _, by rw [z]; exact .nil⟩) (fun _ => .inr ⟨_, e, rfl⟩) .nil) (.cons (.int 0) .nil)
  · cases x
theorem facts {f : Addr} (X : K.In h) (G : h.Ns mainGlobals mg) (hfa : mg ("law" : Str) = some (.ref f)) (c : SaysY xb fa fn K) :
    noL K = true ∧ ∃ fd : FuncData, (∀ (s : Shared) (v : Value), BindsTo s fd ⟨[v], []⟩ [("_law_script", v)]) ∧ ∀ base : Heap, FnG P w K mg base CX0 13 f fd ["_law_script"] (spF ⟨K, mg, atS K⟩ 0 1 F_law) := by
  have KY := ksys_ok c.checks.2.1
  have nb := nb_of X G c
  have er := (er_of X G c).1
  have x := c.checks.2.2
  obtain ⟨xe, x⟩ := He.ba x
  obtain ⟨xm, x⟩ := He.ba x
  obtain ⟨xp, x⟩ := He.ba x
  obtain ⟨xo, x⟩ := He.ba x
  obtain ⟨_, xd⟩ := He.ba x
  obtain ⟨xd, xl⟩ := He.ba xd
  obtain ⟨xe, xe3⟩ := He.ba xe
  obtain ⟨xe1, xe2⟩ := He.ba xe
  obtain ⟨xp1, xp2⟩ := He.ba xp
  obtain ⟨xo, xo3⟩ := He.ba xo
  obtain ⟨xo1, xo2⟩ := He.ba xo
  obtain ⟨xm, xm_eq⟩ := He.ba xm
  obtain ⟨xm, xm_rmul⟩ := He.ba xm
  obtain ⟨xm, xm_mul⟩ := He.ba xm
  obtain ⟨xm, xm_neg⟩ := He.ba xm
  obtain ⟨xm, xm_rsub⟩ := He.ba xm
  obtain ⟨xm, xm_sub⟩ := He.ba xm
  obtain ⟨xm, xm_radd⟩ := He.ba xm
  obtain ⟨xm, xm_add⟩ := He.ba xm
  have xm_call := xm
  have o_add := ops_ok xo1
  have o_sub := ops_ok xo2
  have o_mul := ops_ok xo3
  have e_BadParts : EC K mg (fI K) "BadParts" (He.ga K "BadParts") := ⟨excB_ok xe1, He.glo_ok X G (c.fact (f := .glo "BadParts") (List.mem_of_getElem? (i := 33) rfl))⟩
  have e_BadNumber : EC K mg (fI K) "BadNumber" (He.ga K "BadNumber") := ⟨excB_ok xe2, He.glo_ok X G (c.fact (f := .glo "BadNumber") (List.mem_of_getElem? (i := 34) rfl))⟩
  have e_BadValues : EC K mg (fI K) "BadValues" (He.ga K "BadValues") := ⟨excB_ok xe3, He.glo_ok X G (c.fact (f := .glo "BadValues") (List.mem_of_getElem? (i := 35) rfl))⟩
  obtain ⟨fd_einit, F_Feinit⟩ := c.def_ 0 rfl
  have b_einit : Binds K fd_einit p_einit [] := F_Feinit.bindsN fun _ _ _ _ _ _ us hl => match us, hl with | [_, _], _ => rfl
  obtain ⟨fd_init, F_Finit⟩ := c.def_ 1 rfl
  obtain ⟨ds0, v0, b_init0⟩ := FunD.binds1 (ps := p_init) F_Finit 1 0 (by simp [He5.DefA.dvs]) rfl fun _ _ _ _ _ _ _ us its h1 h2 => match us, its, h1, h2 with | [_], [_, _], _, _ => ⟨_, rfl, rfl⟩
  obtain ⟨ds1, v1, b_init1⟩ := FunD.binds1 (ps := p_init) F_Finit 2 1 (by simp [He5.DefA.dvs]) rfl fun _ _ _ _ _ _ _ us its h1 h2 => match us, its, h1, h2 with | [_, _], [_, _], _, _ => ⟨_, rfl, rfl⟩
  obtain ⟨ds2, v2, b_init2⟩ := FunD.binds1 (ps := p_init) F_Finit 3 2 (by simp [He5.DefA.dvs]) rfl fun _ _ _ _ _ _ _ us its h1 h2 => match us, its, h1, h2 with | [_, _, _], [_, _], _, _ => ⟨_, rfl, rfl⟩
  obtain ⟨fd_parts, F_Fparts⟩ := c.def_ 2 rfl
  have b_parts : Binds K fd_parts p_parts [] := F_Fparts.bindsN fun _ _ _ _ _ _ us hl => match us, hl with | [_], _ => rfl
  obtain ⟨fd_number, F_Fnumber⟩ := c.def_ 3 rfl
  have b_number : Binds K fd_number p_number [] := F_Fnumber.bindsN fun _ _ _ _ _ _ us hl => match us, hl with | [_], _ => rfl
  obtain ⟨fd_call, F_Fcall⟩ := c.def_ 4 rfl
  have b_call : Binds K fd_call p_call [] := F_Fcall.bindsN fun _ _ _ _ _ _ us hl => match us, hl with | [_, _], _ => rfl
  obtain ⟨fd_add, F_Fadd⟩ := c.def_ 5 rfl
  have b_add : Binds K fd_add p_add [] := F_Fadd.bindsN fun _ _ _ _ _ _ us hl => match us, hl with | [_, _], _ => rfl
  obtain ⟨fd_radd, F_Fradd⟩ := c.def_ 6 rfl
  have b_radd : Binds K fd_radd p_radd [] := F_Fradd.bindsN fun _ _ _ _ _ _ us hl => match us, hl with | [_, _], _ => rfl
  obtain ⟨fd_sub, F_Fsub⟩ := c.def_ 7 rfl
  have b_sub : Binds K fd_sub p_sub [] := F_Fsub.bindsN fun _ _ _ _ _ _ us hl => match us, hl with | [_, _], _ => rfl
  obtain ⟨fd_rsub, F_Frsub⟩ := c.def_ 8 rfl
  have b_rsub : Binds K fd_rsub p_rsub [] := F_Frsub.bindsN fun _ _ _ _ _ _ us hl => match us, hl with | [_, _], _ => rfl
  obtain ⟨fd_neg, F_Fneg⟩ := c.def_ 9 rfl
  have b_neg : Binds K fd_neg p_neg [] := F_Fneg.bindsN fun _ _ _ _ _ _ us hl => match us, hl with | [_], _ => rfl
  obtain ⟨fd_mul, F_Fmul⟩ := c.def_ 10 rfl
  have b_mul : Binds K fd_mul p_mul [] := F_Fmul.bindsN fun _ _ _ _ _ _ us hl => match us, hl with | [_, _], _ => rfl
  obtain ⟨fd_rmul, F_Frmul⟩ := c.def_ 11 rfl
  have b_rmul : Binds K fd_rmul p_rmul [] := F_Frmul.bindsN fun _ _ _ _ _ _ us hl => match us, hl with | [_, _], _ => rfl
  obtain ⟨fd_eq, F_Feq⟩ := c.def_ 12 rfl
  have b_eq : Binds K fd_eq p_eq [] := F_Feq.bindsN fun _ _ _ _ _ _ us hl => match us, hl with | [_, _], _ => rfl
  obtain ⟨fd_is_integer, F_Fis_integer⟩ := c.def_ 13 rfl
  have b_is_integer : Binds K fd_is_integer p_is_integer [] := F_Fis_integer.bindsN fun _ _ _ _ _ _ us hl => match us, hl with | [_], _ => rfl
  obtain ⟨fd_is_name, F_Fis_name⟩ := c.def_ 14 rfl
  have b_is_name : Binds K fd_is_name p_is_name [] := F_Fis_name.bindsN fun _ _ _ _ _ _ us hl => match us, hl with | [_], _ => rfl
  obtain ⟨fd_is_ascending, F_Fis_ascending⟩ := c.def_ 15 rfl
  have b_is_ascending : Binds K fd_is_ascending p_is_ascending [] := F_Fis_ascending.bindsN fun _ _ _ _ _ _ us hl => match us, hl with | [_], _ => rfl
  obtain ⟨fd_is_part, F_Fis_part⟩ := c.def_ 16 rfl
  have b_is_part : Binds K fd_is_part p_is_part [] := F_Fis_part.bindsN fun _ _ _ _ _ _ us hl => match us, hl with | [_], _ => rfl
  obtain ⟨fd_are_parts, F_Fare_parts⟩ := c.def_ 17 rfl
  have b_are_parts : Binds K fd_are_parts p_are_parts [] := F_Fare_parts.bindsN fun _ _ _ _ _ _ us hl => match us, hl with | [_], _ => rfl
  obtain ⟨fd_counted, F_Fcounted⟩ := c.def_ 18 rfl
  have b_counted : Binds K fd_counted p_counted [] := F_Fcounted.bindsN fun _ _ _ _ _ _ us hl => match us, hl with | [_, _], _ => rfl
  obtain ⟨fd_added, F_Fadded⟩ := c.def_ 19 rfl
  have b_added : Binds K fd_added p_added [] := F_Fadded.bindsN fun _ _ _ _ _ _ us hl => match us, hl with | [_, _, _], _ => rfl
  obtain ⟨fd_times, F_Ftimes⟩ := c.def_ 20 rfl
  have b_times : Binds K fd_times p_times [] := F_Ftimes.bindsN fun _ _ _ _ _ _ us hl => match us, hl with | [_, _], _ => rfl
  obtain ⟨fd_are_values, F_Fare_values⟩ := c.def_ 21 rfl
  have b_are_values : Binds K fd_are_values p_are_values [] := F_Fare_values.bindsN fun _ _ _ _ _ _ us hl => match us, hl with | [_, _], _ => rfl
  obtain ⟨fd_law_pot, F_Flaw_pot⟩ := c.def_ 22 rfl
  have b_law_pot : Binds K fd_law_pot p_law_pot [] := F_Flaw_pot.bindsN fun _ _ _ _ _ _ us hl => match us, hl with | [_, _], _ => rfl
  obtain ⟨fd_law_take, F_Flaw_take⟩ := c.def_ 23 rfl
  have b_law_take : Binds K fd_law_take p_law_take [] := F_Flaw_take.bindsN fun _ _ _ _ _ _ us hl => match us, hl with | [_, _], _ => rfl
  obtain ⟨fd_law_of, F_Flaw_of⟩ := c.def_ 24 rfl
  have b_law_of : Binds K fd_law_of p_law_of [] := F_Flaw_of.bindsN fun _ _ _ _ _ _ us hl => match us, hl with | [_, _], _ => rfl
  obtain ⟨fd_law_some, F_Flaw_some⟩ := c.def_ 25 rfl
  have b_law_some : Binds K fd_law_some p_law_some [] := F_Flaw_some.bindsN fun _ _ _ _ _ _ us hl => match us, hl with | [_, _, _], _ => rfl
  obtain ⟨fd_law_names, F_Flaw_names⟩ := c.def_ 26 rfl
  have b_law_names : Binds K fd_law_names p_law_names [] := F_Flaw_names.bindsN fun _ _ _ _ _ _ us hl => match us, hl with | [_, _], _ => rfl
  obtain ⟨fd_law_places, F_Flaw_places⟩ := c.def_ 27 rfl
  have b_law_places : Binds K fd_law_places p_law_places [] := F_Flaw_places.bindsN fun _ _ _ _ _ _ us hl => match us, hl with | [_, _], _ => rfl
  obtain ⟨fd_law_sum, F_Flaw_sum⟩ := c.def_ 28 rfl
  have b_law_sum : Binds K fd_law_sum p_law_sum [] := F_Flaw_sum.bindsN fun _ _ _ _ _ _ us hl => match us, hl with | [_, _], _ => rfl
  obtain ⟨fd_law_plus, F_Flaw_plus⟩ := c.def_ 29 rfl
  have b_law_plus : Binds K fd_law_plus p_law_plus [] := F_Flaw_plus.bindsN fun _ _ _ _ _ _ us hl => match us, hl with | [_, _], _ => rfl
  obtain ⟨fd_law_times, F_Flaw_times⟩ := c.def_ 30 rfl
  have b_law_times : Binds K fd_law_times p_law_times [] := F_Flaw_times.bindsN fun _ _ _ _ _ _ us hl => match us, hl with | [_, _], _ => rfl
  obtain ⟨fd_law_made, F_Flaw_made⟩ := c.def_ 31 rfl
  have b_law_made : Binds K fd_law_made p_law_made [] := F_Flaw_made.bindsN fun _ _ _ _ _ _ us hl => match us, hl with | [_], _ => rfl
  obtain ⟨fd_law_pair, F_Flaw_pair⟩ := c.def_ 32 rfl
  have b_law_pair : Binds K fd_law_pair p_law_pair [] := F_Flaw_pair.bindsN fun _ _ _ _ _ _ us hl => match us, hl with | [_], _ => rfl
  obtain ⟨fd_law_many, F_Flaw_many⟩ := c.def_ 33 rfl
  have b_law_many : Binds K fd_law_many p_law_many [] := F_Flaw_many.bindsN fun _ _ _ _ _ _ us hl => match us, hl with | [_], _ => rfl
  obtain ⟨fd_law_some_sum, F_Flaw_some_sum⟩ := c.def_ 34 rfl
  have b_law_some_sum : Binds K fd_law_some_sum p_law_some_sum [] := F_Flaw_some_sum.bindsN fun _ _ _ _ _ _ us hl => match us, hl with | [_, _, _], _ => rfl
  obtain ⟨fd_law_comes, F_Flaw_comes⟩ := c.def_ 35 rfl
  have b_law_comes : Binds K fd_law_comes p_law_comes [] := F_Flaw_comes.bindsN fun _ _ _ _ _ _ us hl => match us, hl with | [_, _], _ => rfl
  obtain ⟨fd_law_is_made, F_Flaw_is_made⟩ := c.def_ 36 rfl
  have b_law_is_made : Binds K fd_law_is_made p_law_is_made [] := F_Flaw_is_made.bindsN fun _ _ _ _ _ _ us hl => match us, hl with | [_, _, _], _ => rfl
  obtain ⟨fd_law_right, F_Flaw_right⟩ := c.def_ 37 rfl
  have b_law_right : Binds K fd_law_right p_law_right [] := F_Flaw_right.bindsN fun _ _ _ _ _ _ us hl => match us, hl with | [_], _ => rfl
  obtain ⟨fd_law, F_Flaw⟩ := c.def_ 38 rfl
  have b_law := FunD.bindsA (ps := ["_law_script"]) F_Flaw fun _ _ _ _ _ _ us hl => match us, hl with | [_], _ => rfl
  have g_law : mg ("law" : Str) = some (.ref (He.ga K "law")) := He.glo_ok X G (c.fact (f := .glo "law") (List.mem_of_getElem? (i := 25) rfl))
  cases hfa.symm.trans g_law
  refine ⟨xl, fd_law, fun s v => b_law s [v] rfl, fun base => ?_⟩
  have iO : IO P w K mg base (fI K) := ⟨⟨_, _, ok_einit F_Feinit, b_einit⟩⟩
  have dd0H : ∀ H, DDs ⟨K, mg, atS K⟩ H [V.ref (He.dflAt ("Sum", some "__init__") 0 K), .int 0] dd0 := dd0_of xd
  have dd2H : ∀ H, DDs ⟨K, mg, atS K⟩ H [] dd2 := fun _ => .nil
  have c_is_integer : CalO P w K mg base CX0 1 "is_integer" (spF ⟨K, mg, atS K⟩ 0 1 F_is_integer) := ⟨_, _, _, ok_is_integer F_Fis_integer nb , He.glo_ok X G (c.fact (f := .glo "is_integer") (List.mem_of_getElem? (i := 0) rfl)), F_Fis_integer.kp, b_is_integer⟩
  have c_is_name : CalO P w K mg base CX0 1 "is_name" (spF ⟨K, mg, atS K⟩ 0 1 F_is_name) := ⟨_, _, _, ok_is_name F_Fis_name nb , He.glo_ok X G (c.fact (f := .glo "is_name") (List.mem_of_getElem? (i := 1) rfl)), F_Fis_name.kp, b_is_name⟩
  have c_is_ascending : CalO P w K mg base CX0 1 "is_ascending" (spF ⟨K, mg, atS K⟩ 0 1 F_is_ascending) := ⟨_, _, _, ok_is_ascending F_Fis_ascending nb , He.glo_ok X G (c.fact (f := .glo "is_ascending") (List.mem_of_getElem? (i := 2) rfl)), F_Fis_ascending.kp, b_is_ascending⟩
  have c__is_part : CalO P w K mg base CX0 2 "_is_part" (spF ⟨K, mg, atS K⟩ 0 1 F_is_part) := ⟨_, _, _, ok_is_part F_Fis_part nb c_is_name c_is_integer KY, He.glo_ok X G (c.fact (f := .glo "_is_part") (List.mem_of_getElem? (i := 3) rfl)), F_Fis_part.kp, b_is_part⟩
  have c__are_parts : CalO P w K mg base CX0 3 "_are_parts" (spF ⟨K, mg, atS K⟩ 0 1 F_are_parts) := ⟨_, _, _, ok_are_parts F_Fare_parts nb c_is_ascending c__is_part, He.glo_ok X G (c.fact (f := .glo "_are_parts") (List.mem_of_getElem? (i := 4) rfl)), F_Fare_parts.kp, b_are_parts⟩
  have c__law_pot : CalG P w K mg base CX0 1 "_law_pot" (spN ⟨K, mg, atS K⟩ 2 F_law_pot) := ⟨_, _, _, ok_law_pot F_Flaw_pot nb , He.glo_ok X G (c.fact (f := .glo "_law_pot") (List.mem_of_getElem? (i := 9) rfl)), F_Flaw_pot.kp, b_law_pot⟩
  have c__law_take : CalG P w K mg base CX0 1 "_law_take" (spF ⟨K, mg, atS K⟩ 1 2 F_law_take) := ⟨_, _, _, ok_law_take F_Flaw_take nb , He.glo_ok X G (c.fact (f := .glo "_law_take") (List.mem_of_getElem? (i := 10) rfl)), F_Flaw_take.kp, b_law_take⟩
  have c__law_of : CalG P w K mg base CX0 2 "_law_of" (spF ⟨K, mg, atS K⟩ 1 2 F_law_of) := ⟨_, _, _, ok_law_of F_Flaw_of nb c__law_take, He.glo_ok X G (c.fact (f := .glo "_law_of") (List.mem_of_getElem? (i := 11) rfl)), F_Flaw_of.kp, b_law_of⟩
  have c__law_some : CalG P w K mg base CX0 2 "_law_some" (spF ⟨K, mg, atS K⟩ 1 3 F_law_some) := ⟨_, _, _, ok_law_some F_Flaw_some nb c__law_take, He.glo_ok X G (c.fact (f := .glo "_law_some") (List.mem_of_getElem? (i := 12) rfl)), F_Flaw_some.kp, b_law_some⟩
  have c__law_names : CalG P w K mg base CX0 3 "_law_names" (spF ⟨K, mg, atS K⟩ 1 2 F_law_names) := ⟨_, _, _, ok_law_names F_Flaw_names nb c__law_some, He.glo_ok X G (c.fact (f := .glo "_law_names") (List.mem_of_getElem? (i := 13) rfl)), F_Flaw_names.kp, b_law_names⟩
  have c__law_places : CalG P w K mg base CX0 1 "_law_places" (spF ⟨K, mg, atS K⟩ 0 2 F_law_places) := ⟨_, _, _, ok_law_places F_Flaw_places nb , He.glo_ok X G (c.fact (f := .glo "_law_places") (List.mem_of_getElem? (i := 14) rfl)), F_Flaw_places.kp, b_law_places⟩
  have c__law_sum : CalG P w K mg base CX0 1 "_law_sum" (spF ⟨K, mg, atS K⟩ 0 2 F_law_sum) := ⟨_, _, _, ok_law_sum F_Flaw_sum nb KY, He.glo_ok X G (c.fact (f := .glo "_law_sum") (List.mem_of_getElem? (i := 15) rfl)), F_Flaw_sum.kp, b_law_sum⟩
  have c__law_plus : CalG P w K mg base CX0 2 "_law_plus" (spF ⟨K, mg, atS K⟩ 0 2 F_law_plus) := ⟨_, _, _, ok_law_plus F_Flaw_plus nb c__law_sum, He.glo_ok X G (c.fact (f := .glo "_law_plus") (List.mem_of_getElem? (i := 16) rfl)), F_Flaw_plus.kp, b_law_plus⟩
  have c__law_times : CalG P w K mg base CX0 2 "_law_times" (spF ⟨K, mg, atS K⟩ 0 2 F_law_times) := ⟨_, _, _, ok_law_times F_Flaw_times nb c__law_sum, He.glo_ok X G (c.fact (f := .glo "_law_times") (List.mem_of_getElem? (i := 17) rfl)), F_Flaw_times.kp, b_law_times⟩
  have c__law_many : CalG P w K mg base CX0 3 "_law_many" (spF ⟨K, mg, atS K⟩ 1 1 F_law_many) := ⟨_, _, _, ok_law_many F_Flaw_many nb c__law_of, He.glo_ok X G (c.fact (f := .glo "_law_many") (List.mem_of_getElem? (i := 20) rfl)), F_Flaw_many.kp, b_law_many⟩
  have c__law_some_sum : CalG P w K mg base CX0 4 "_law_some_sum" (spF ⟨K, mg, atS K⟩ 1 3 F_law_some_sum) := ⟨_, _, _, ok_law_some_sum F_Flaw_some_sum nb c__law_some c__law_sum c__law_of c__law_take c__law_many, He.glo_ok X G (c.fact (f := .glo "_law_some_sum") (List.mem_of_getElem? (i := 21) rfl)), F_Flaw_some_sum.kp, b_law_some_sum⟩
  have c__law_comes : CalG P w K mg base CX0 1 "_law_comes" (spF ⟨K, mg, atS K⟩ 0 2 F_law_comes) := ⟨_, _, _, ok_law_comes F_Flaw_comes nb , He.glo_ok X G (c.fact (f := .glo "_law_comes") (List.mem_of_getElem? (i := 22) rfl)), F_Flaw_comes.kp, b_law_comes⟩
  have c_Sum0 : CalC P w K mg base (L2.CX P w) 4 "Sum" (cS K) [V.ref (He.dflAt ("Sum", some "__init__") 0 K), .int 0] (spI ⟨K, mg, atS K⟩ "Sum" 3 F_init) := ⟨⟨_, _, _, ds0, ok_init F_Finit nb er c__are_parts c_is_integer e_BadParts e_BadNumber iO, He.mkr_ok (x := "Sum") (c.fact (List.mem_of_getElem? (i := 32) rfl)), b_init0, v0⟩, er.c⟩
  have c_Sum2 : CalC P w K mg base (L2.CX P w) 4 "Sum" (cS K) [] (spI ⟨K, mg, atS K⟩ "Sum" 3 F_init) := ⟨⟨_, _, _, ds2, ok_init F_Finit nb er c__are_parts c_is_integer e_BadParts e_BadNumber iO, He.mkr_ok (x := "Sum") (c.fact (List.mem_of_getElem? (i := 32) rfl)), b_init2, v2⟩, er.c⟩
  have c_parts : CalP P w K mg base CX0 1 (cS K) "parts" (spF ⟨K, mg, atS K⟩ 0 1 F_parts) := ⟨⟨_, _, _, _, ok_parts F_Fparts nb er, prop_ok xp1, b_parts⟩⟩
  have c_number : CalP P w K mg base CX0 1 (cS K) "number" (spF ⟨K, mg, atS K⟩ 0 1 F_number) := ⟨⟨_, _, _, _, ok_number F_Fnumber nb er, prop_ok xp2, b_number⟩⟩
  have c__counted : CalO P w K mg base CX0 6 "sum_of_counts" (spF ⟨K, mg, atS K⟩ 0 2 F_counted) := ⟨_, _, _, ok_counted F_Fcounted nb er c_Sum2 dd2H KY, He.glo_ok X G (c.fact (f := .glo "sum_of_counts") (List.mem_of_getElem? (i := 5) rfl)), F_Fcounted.kp, b_counted⟩
  have c__added : CalO P w K mg base CX0 7 "_added" (spF ⟨K, mg, atS K⟩ 0 3 F_added) := ⟨_, _, _, ok_added F_Fadded nb er c_parts c__counted c_number, He.glo_ok X G (c.fact (f := .glo "_added") (List.mem_of_getElem? (i := 6) rfl)), F_Fadded.kp, b_added⟩
  have c__times : CalO P w K mg base CX0 7 "_times" (spF ⟨K, mg, atS K⟩ 0 2 F_times) := ⟨_, _, _, ok_times F_Ftimes nb er c__counted c_parts c_number, He.glo_ok X G (c.fact (f := .glo "_times") (List.mem_of_getElem? (i := 7) rfl)), F_Ftimes.kp, b_times⟩
  have c__are_values : CalO P w K mg base CX0 2 "_are_values" (spF ⟨K, mg, atS K⟩ 0 2 F_are_values) := ⟨_, _, _, ok_are_values F_Fare_values nb c_is_name c_is_integer, He.glo_ok X G (c.fact (f := .glo "_are_values") (List.mem_of_getElem? (i := 8) rfl)), F_Fare_values.kp, b_are_values⟩
  have c_call : CalM P w K mg base (L2.CX P w) 3 (cS K) "__call__" (He.ma K (cS K) "__call__") (spF ⟨K, mg, atS K⟩ 0 2 F_call) := calM_of xm_call (ok_call F_Fcall nb er c__are_values e_BadValues iO) b_call
  have c_add : CalM P w K mg base CX0 8 (cS K) "__add__" (He.ma K (cS K) "__add__") (spF ⟨K, mg, atS K⟩ 0 2 F_add) := calM_of xm_add (ok_add F_Fadd nb er c__added c_is_integer c_Sum2 dd2H) b_add
  have c_radd : CalM P w K mg base CX0 6 (cS K) "__radd__" (He.ma K (cS K) "__radd__") (spF ⟨K, mg, atS K⟩ 0 2 F_radd) := calM_of xm_radd (ok_radd F_Fradd nb er c_is_integer c_Sum2 dd2H) b_radd
  have c_sub : CalM P w K mg base CX0 8 (cS K) "__sub__" (He.ma K (cS K) "__sub__") (spF ⟨K, mg, atS K⟩ 0 2 F_sub) := calM_of xm_sub (ok_sub F_Fsub nb er c__added c_is_integer c_Sum2 dd2H) b_sub
  have c_rsub : CalM P w K mg base CX0 10 (cS K) "__rsub__" (He.ma K (cS K) "__rsub__") (spF ⟨K, mg, atS K⟩ 0 2 F_rsub) := calM_of xm_rsub (ok_rsub F_Frsub nb er c_is_integer c_add c_radd c__times o_add) b_rsub
  have c_neg : CalM P w K mg base CX0 8 (cS K) "__neg__" (He.ma K (cS K) "__neg__") (spF ⟨K, mg, atS K⟩ 0 1 F_neg) := calM_of xm_neg (ok_neg F_Fneg nb c__times) b_neg
  have c_mul : CalM P w K mg base CX0 8 (cS K) "__mul__" (He.ma K (cS K) "__mul__") (spF ⟨K, mg, atS K⟩ 0 2 F_mul) := calM_of xm_mul (ok_mul F_Fmul nb c_is_integer c__times) b_mul
  have c_rmul : CalM P w K mg base CX0 8 (cS K) "__rmul__" (He.ma K (cS K) "__rmul__") (spF ⟨K, mg, atS K⟩ 0 2 F_rmul) := calM_of xm_rmul (ok_rmul F_Frmul nb c_is_integer c__times) b_rmul
  have c_eq : CalM P w K mg base CX0 1 (cS K) "__eq__" (He.ma K (cS K) "__eq__") (spF ⟨K, mg, atS K⟩ 0 2 F_eq) := calM_of xm_eq (ok_eq F_Feq nb er KY) b_eq
  have c__law_made : CalG P w K mg base CX0 6 "_law_made" (spF ⟨K, mg, atS K⟩ 0 1 F_law_made) := ⟨_, _, _, ok_law_made F_Flaw_made nb er c_Sum2 dd2H, He.glo_ok X G (c.fact (f := .glo "_law_made") (List.mem_of_getElem? (i := 18) rfl)), F_Flaw_made.kp, b_law_made⟩
  have c__law_pair : CalG P w K mg base CX0 3 "_law_pair" (spF ⟨K, mg, atS K⟩ 0 1 F_law_pair) := ⟨_, _, _, ok_law_pair F_Flaw_pair nb er c_parts c_number, He.glo_ok X G (c.fact (f := .glo "_law_pair") (List.mem_of_getElem? (i := 19) rfl)), F_Flaw_pair.kp, b_law_pair⟩
  have c__law_is_made : CalG P w K mg base CX0 5 "_law_is_made" (spF ⟨K, mg, atS K⟩ 0 3 F_law_is_made) := ⟨_, _, _, ok_law_is_made F_Flaw_is_made nb er c__law_pair c_call c__law_comes KY, He.glo_ok X G (c.fact (f := .glo "_law_is_made") (List.mem_of_getElem? (i := 23) rfl)), F_Flaw_is_made.kp, b_law_is_made⟩
  have c__law_right : CalG P w K mg base CX0 12 "_law_right" (spF ⟨K, mg, atS K⟩ 1 1 F_law_right) := ⟨_, _, _, ok_law_right F_Flaw_right nb er c__law_names c__law_some_sum c__law_made c__law_of c_add c_radd c__law_plus c_sub c_rsub c__law_times c_neg c_mul c_rmul c__law_is_made c_call c_eq c_Sum0 dd0H c__law_pair o_add o_sub o_mul KY, He.glo_ok X G (c.fact (f := .glo "_law_right") (List.mem_of_getElem? (i := 24) rfl)), F_Flaw_right.kp, b_law_right⟩
  exact ok_law F_Flaw nb c__law_places c__law_pot c__law_right
/-- the argument as data -/
theorem arg_dd {H : Hp} {a : Addr} {ns : List Int} (x : noL K = true) (hO : Only H) (hS : SqL K H a (ns.map V.int)) : DD ⟨K, mg, atS K⟩ H (.ref a) (.lst (ns.map Dat.int)) := by
  have go : ∀ ns : List Int, DDs ⟨K, mg, atS K⟩ H (ns.map V.int) (ns.map Dat.int) := fun ns => by
    induction ns with
    | nil => exact .nil
    | cons n r ih => exact .cons (.int n) ih
  rcases hS with (hS | ⟨o, hS⟩) | ⟨o, its, n, hk, hc, _⟩
  · rcases hO a with z | ⟨o, xs, z⟩
    · rw [hS] at z; cases z
    · rw [hS] at z; cases z
  · exact .lst hS (go ns)
  · have m : ∀ (l : List (Addr × Obj)), l.lookup a = some o → (a, o) ∈ l := fun l => by
      induction l with
      | nil => intro z; cases z
      | cons p r ih =>
        intro z
        obtain ⟨b, ob⟩ := p
        rw [List.lookup_cons] at z
        by_cases e : a = b
        · subst e
          rw [beq_self_eq_true] at z
          cases z
          exact List.mem_cons_self
        · rw [beq_eq_false_iff_ne.mpr e] at z
          exact List.mem_cons_of_mem _ (ih z)
    have := List.all_eq_true.mp x _ (m K hk)
    rw [hc] at this
    cases this
end
end K04

set_option Elab.async false
set_option linter.all false
set_option maxRecDepth 100000
set_option maxHeartbeats 1000000
/-! M0: what mirrors come to: steps by equations. -/
namespace DL
open PySem PySem.Spec PyProof.Rows L2 GX
theorem log2_lt {k n : Nat} (h : k < 2 ^ n) (h0 : 0 < n) : k.log2 < n := by
  by_cases z : k = 0
  · subst z; rw [Nat.log2_zero]; exact h0
  · exact (Nat.log2_lt z).mpr h
theorem mulF_ok {i j : Int} (hi : i.natAbs < 2 ^ 200) (hj : j.natAbs < 2 ^ 200) : mulF (.int i) (.int j) = some (.int (i * j)) := by
  show (if _ then _ else _) = _
  rw [if_pos]
  have a := log2_lt hi (by decide)
  have b := log2_lt hj (by decide)
  omega
theorem fdivF_ok {i j : Int} (h : 0 < j) (hj : j.natAbs < 2 ^ 200) : fdivF (.int i) (.int j) = some (.int (i / j)) := by
  show (if _ then _ else _) = _
  rw [if_pos]
  have b := log2_lt hj (by decide)
  exact ⟨h, by omega⟩
theorem modF_ok {i j : Int} (h : 0 < j) : modF (.int i) (.int j) = some (.int (i % j)) := by
  show (if _ then _ else _) = _
  rw [if_pos h]
theorem powF_ok {i j : Int} (h : 0 ≤ j) (h1 : j ≤ 1000000) (hi : i.natAbs < 2 ^ 64) : powF (.int i) (.int j) = some (.int (i ^ j.toNat)) := by
  show (if _ then _ else _) = _
  rw [if_pos ⟨h, h1, hi⟩]
def pot (a b c : Int) : MO := .lst [.int a, .int b, .int c]
theorem atI_ok {α : Type} {xs : List α} {i : Int} (h : 0 ≤ i) (h1 : i < xs.length) : atI xs i = some (xs[i.toNat]'(by omega)) := by
  unfold atI ixN
  rw [if_pos h, if_pos h1]
  exact List.getElem?_eq_getElem _
theorem atI_0 {α : Type} {x : α} {r : List α} : atI (x :: r) 0 = some x := (atI_ok (by omega) (by rw [List.length_cons]; omega)).trans rfl
theorem atI_1 {α : Type} {x y : α} {r : List α} : atI (x :: y :: r) 1 = some y := (atI_ok (by omega) (by rw [List.length_cons, List.length_cons]; omega)).trans rfl
theorem atI_2 {α : Type} {x y z : α} {r : List α} : atI (x :: y :: z :: r) 2 = some z := (atI_ok (by omega) (by rw [List.length_cons, List.length_cons, List.length_cons]; omega)).trans rfl
theorem nr {α : Sort _} {a b : α} (h : a = b) : a = b := h
def callS (c0 : Str) (F : FM) (ml : M (List Dat)) (d : Dat) : M Dat := match d with | .obj c' gs => if c' = c0 then bnd ml fun ds g => resM g (F [] (.obj c' gs :: ds)) else fun _ => none | _ => fun _ => none
/-! ### evaluation, one step for each combinator, only where a frame is applied -/
section
variable {α β : Type} {g : Frm} {i j l : Nat} {a b c m o mk mv mt md : M Dat} {f f' : Dat → Dat → Option Dat} {q : Dat → Option Dat} {h : List Dat → Option Dat} {ml : M (List Dat)} {t1 t2 t3 : M Bool} {x y z d : Dat} {k : Nat} {mo mo2 : M MO} {s1 s2 : M Fl}
theorem e_ret {a : α} : DL.ret a g = some (.ok a g) := nr rfl
theorem e_lift {o : Option α} : DL.lift o g = match o with | some a => some (.ok a g) | none => none := nr rfl
theorem e_bnd {m : M α} {f : α → M β} : bnd m f g = match m g with | some (.ok a g') => f a g' | some (.ex c w g') => some (.ex c w g') | none => none := nr rfl
theorem e_var : mVar i g = match g[i]? with | some (.d x) => some (.ok x g) | some (.s x) => some (.ok x g) | _ => none := by
  unfold mVar; split <;> simp_all
theorem e_C : mC d g = some (.ok d g) := nr rfl
theorem e_op : mOp f a b g = bnd a (fun x => bnd b fun y => DL.lift (f x y)) g := nr rfl
theorem e_un : mUn q a g = bnd a (fun x => DL.lift (q x)) g := nr rfl
theorem e_nil : mNil g = some (.ok [] g) := nr rfl
theorem e_cons : mCons a ml g = bnd a (fun x => bnd ml fun xs => DL.ret (x :: xs)) g := nr rfl
theorem e_fn : mFn h ml g = bnd ml (fun xs => DL.lift (h xs)) g := nr rfl
theorem e_test : mTest a g = bnd a (fun x => DL.lift (asB x)) g := nr rfl
theorem e_notT : mNotT t1 g = bnd t1 (fun b => DL.ret (!b)) g := nr rfl
theorem e_andT : mAndT t1 t2 g = bnd t1 (fun c => if c = true then t2 else DL.ret false) g := nr rfl
theorem e_orT : mOrT t1 t2 g = bnd t1 (fun c => if c = true then DL.ret true else t2) g := nr rfl
theorem e_notV : mNotV a g = bnd a (fun x => bnd (DL.lift (asB x)) fun c => DL.ret (.bl (!c))) g := nr rfl
theorem e_andV : mAndV a b g = bnd a (fun x => bnd (DL.lift (asB x)) fun c => if c = true then b else DL.ret (.bl false)) g := nr rfl
theorem e_orV : mOrV a b g = bnd a (fun x => bnd (DL.lift (asB x)) fun c => if c = true then DL.ret (.bl true) else b) g := nr rfl
theorem e_if {u v : M α} : mIf t1 u v g = bnd t1 (fun k => if k = true then u else v) g := nr rfl
theorem e_tt {u v : M α} : (if true = true then u else v) g = u g := nr rfl
theorem e_ff {u v : M α} : (if false = true then u else v) g = v g := nr rfl
theorem e_chain : mChain f f' a b c g = bnd a (fun x => bnd b fun y => bnd (DL.lift (f x y)) fun z => bnd (DL.lift (asB z)) fun k => if k = true then bnd c fun w => DL.lift (f' y w) else DL.ret (.bl false)) g := nr rfl
theorem e_tup : mTup ml g = bnd ml (fun xs => DL.lift (mkTup xs)) g := nr rfl
theorem e_lst : mLst ml g = bnd ml (fun xs => DL.lift (mkLst xs)) g := nr rfl
theorem e_next : mNext g = some (.ok .nx g) := nr rfl
theorem e_seq : mSeq s1 s2 g = bnd s1 (fun f => match f with | .nx => s2 | f => DL.ret f) g := nr rfl
theorem e_nx {u : M Fl} : (match Fl.nx with | .nx => u | f => DL.ret f) g = u g := nr rfl
theorem e_rt {u : M Fl} : (match Fl.rt d with | .nx => u | f => DL.ret f) g = some (.ok (.rt d) g) := nr rfl
theorem e_drop : mDrop a g = bnd a (fun _ => DL.ret .nx) g := nr rfl
theorem e_mret : mRet a g = bnd a (fun d => DL.ret (.rt d)) g := nr rfl
theorem e_retN : mRetN g = some (.ok (.rt .non) g) := nr rfl
theorem e_set : mSet i a g = bnd a (fun d => bnd (setD i d) fun _ => DL.ret .nx) g := nr rfl
theorem e_asg {t : Dat → M Unit} : mAsg t a g = bnd a (fun d => bnd (t d) fun _ => DL.ret .nx) g := nr rfl
theorem e_par : mPar i j ml g = bnd ml (fun ds => match ds with | [x, y] => bnd (setD i x) fun _ => bnd (setD j y) fun _ => DL.ret .nx | _ => fun _ => none) g := nr rfl
theorem e_par3 : mPar3 i j l ml g = bnd ml (fun ds => match ds with | [x, y, z] => bnd (setD i x) fun _ => bnd (setD j y) fun _ => bnd (setD l z) fun _ => DL.ret .nx | _ => fun _ => none) g := nr rfl
theorem e_par2N : mPar2N i j mo mo2 g = bnd mo (fun o1 => bnd mo2 fun o2 => bnd (setM i o1) fun _ => bnd (setM j o2) fun _ => DL.ret .nx) g := nr rfl
theorem e_setD : setD i d g = match g[i]? with | some (.m true _) => none | some (.s _) => none | some _ => some (.ok () (g.set i (.d d))) | none => none := nr rfl
theorem e_setM {o : MO} : setM i o g = match g[i]? with | some (.m true _) => none | some (.s _) => none | some _ => some (.ok () (g.set i (.m false o))) | none => none := nr rfl
theorem e_own : mOwn i mo g = bnd mo (fun o => bnd (setM i o) fun _ => DL.ret .nx) g := nr rfl
theorem e_isi {pb : Dat → Option Bool} : mIsi pb a g = bnd a (fun x => DL.lift ((pb x).map Dat.bl)) g := nr rfl
theorem e_tupT {n : Nat} {t : List Dat → M Unit} {s : Bool} {xs : List Dat} : tupT n t (.tup s xs) g = if xs.length = n then t xs g else none := by
  show (if xs.length = n then t xs else fun _ => none) g = _
  split <;> rfl
theorem e_nilT : nilT [] g = some (.ok () g) := nr rfl
theorem e_consT {t : Dat → M Unit} {u : List Dat → M Unit} {xs : List Dat} : consT t u (x :: xs) g = bnd (t x) (fun _ => u xs) g := nr rfl
theorem e_lstN : mLstN ml g = bnd ml (fun xs => if xs.length ≤ sizeLine then DL.ret (.lst xs) else fun _ => none) g := nr rfl
theorem e_dic0 : mDic0 g = some (.ok (.dic []) g) := nr rfl
theorem e_fnN {h : List Dat → Option MO} : mFnN h ml g = bnd ml (fun xs => DL.lift (h xs)) g := nr rfl
theorem e_callN {F : FN} : mCallN F ml g = bnd ml (fun ds => DL.lift (F ds)) g := nr rfl
theorem e_fzN : mFzN mo g = bnd mo (fun o => DL.lift (moD o)) g := nr rfl
theorem e_seqO {f : Dat → Option (List Dat)} : mSeqO f a g = bnd a (fun d => DL.lift (f d)) g := nr rfl
theorem e_itA {f : List Dat → Option (List Dat)} : mItA f ml g = bnd ml (fun d => DL.lift (f d)) g := nr rfl
theorem e_for {it : M (List Dat)} {t : Dat → M Unit} {body : M Fl} : mFor it t body g = bnd it (fun ds => forL t body ds) g := nr rfl
theorem e_attr {c0 f : Str} : mAttr c0 f a g = bnd a (fun d => match d with | .obj c gs => if c = c0 then DL.lift (gs.lookup f) else fun _ => none | _ => fun _ => none) g := nr rfl
theorem e_raise {c : Str} : mRaise c a g = bnd a (fun w g => some (.ex c w g)) g := nr rfl
theorem e_make {F : FI} {dd : List Dat} : mMake F dd ml g = bnd ml (fun ds g => match F (ds ++ dd) with | some (d, none) => some (.ok d g) | some (_, some (c, w)) => some (.ex c w g) | none => none) g := nr rfl
theorem e_part : mPart a g = bnd a (fun d => DL.lift ((asI d).map some)) g := nr rfl
theorem e_slice {lo hi : M (Option Int)} : mSlice a lo hi g = bnd a (fun x => bnd lo fun l => bnd hi fun u => DL.lift (sliceF x l u)) g := nr rfl
theorem e_ixM : mIxM i a g = if (lstAt g i).isSome = true then bnd a (fun d g1 => match lstAt g1 i, d with | some (_, xs), .int j => (atI xs j).map fun y => R.ok y g1 | _, _ => none) g else none := nr rfl
theorem e_setIx : mSetIx i mk mv g = bnd mv (fun v g => if (lstAt g i).isSome = true then bnd mk (fun k g1 => match lstAt g1 i, k with | some (b, xs), .int k => (match ixN xs.length k with | some j => some (.ok .nx (g1.set i (.m b (.lst (xs.set j v))))) | none => none) | _, _ => none) g else none) g := nr rfl
theorem e_append : mAppend i a g = if (lstAt g i).isSome = true then bnd a (fun d g1 => match lstAt g1 i with | some (b, xs) => if xs.length < sizeLine then some (.ok .non (g1.set i (.m b (.lst (xs ++ [d]))))) else none | none => none) g else none := nr rfl
theorem e_popAt : mPopAt i a g = if (lstAt g i).isSome = true then bnd a (fun d g1 => match lstAt g1 i, d with | some (b, xs), .int j => if -(2 ^ 63) ≤ j ∧ j < 2 ^ 63 then (match seqIndex? j xs.length with | some q => (match xs[q]? with | some y => some (.ok y (g1.set i (.m b (.lst (xs.eraseIdx q))))) | none => none) | none => none) else none | _, _ => none) g else none := nr rfl
theorem e_lenM : mLenM i g = match lstAt g i with | some (_, xs) => some (.ok (.int (xs.length : Nat)) g) | none => match dicAt g i with | some (_, xs) => some (.ok (.int (xs.length : Nat)) g) | none => none := nr rfl
theorem e_fz : mFz i g = match g[i]? with | some (.d x) => some (.ok x g) | some (.s x) => some (.ok x g) | some (.m false o) => (moD o).map fun d => R.ok d (g.set i (.d d)) | _ => none := nr rfl
theorem e_call {js : List Nat} {F : FM} {dd : List Dat} : mCall js F dd ml g = if js.all (ownB g) = true then bnd ml (fun ds g1 => match getMs js g1 with | none => none | some os => (match F os (ds ++ dd) with | some (.ok d os') => if os'.length = js.length then some (.ok d (putMs js os' g1)) else none | some (.ex c w os') => if os'.length = js.length then some (.ex c w (putMs js os' g1)) else none | none => none)) g else none := nr rfl
theorem e_prop {c0 : Str} {F : FM} : mProp c0 F a g = bnd a (fun d => match d with | .obj c gs => if c = c0 then (fun g => (match F [] [.obj c gs] with | some (.ok z []) => some (.ok z g) | _ => none)) else fun _ => none | _ => fun _ => none) g := nr rfl
theorem e_getM : mGetM i mk md g = if (dicAt g i).isSome = true then bnd mk (fun k => bnd md fun d g1 => match dicAt g1 i, keyO k with | some (_, kvs), some q => some (.ok ((valD kvs q).getD d) g1) | _, _ => none) g else none := nr rfl
theorem e_putM : mPutM i mk mv g = bnd mv (fun v g => if (dicAt g i).isSome = true then bnd mk (fun k g1 => match dicAt g1 i, keyO k with | some (b, kvs), some q => if kvs.length < sizeLine then some (.ok .nx (g1.set i (.m b (.dic (putDk kvs q v))))) else none | _, _ => none) g else none) g := nr rfl
theorem e_getD : mGetD o mk md g = bnd o (fun o => match o with | .dic kvs => bnd mk fun k => bnd md fun d => DL.lift ((keyO k).map fun q => (valD kvs q).getD d) | _ => fun _ => none) g := nr rfl
theorem e_ixD : mIxD o mk g = bnd o (fun o => match o with | .dic kvs => bnd mk fun k => DL.lift ((keyO k).bind fun q => valD kvs q) | _ => fun _ => none) g := nr rfl
theorem e_inD {neg : Bool} : mInD neg mk o g = bnd mk (fun k => bnd o fun o => match o with | .dic kvs => DL.lift ((keyO k).map fun q => Dat.bl (if neg = true then !(valD kvs q).isSome else (valD kvs q).isSome)) | _ => fun _ => none) g := nr rfl
theorem e_methS0 {h : Dat → List Dat → Option Dat} : mMethS0 h a g = bnd a (fun d => match d with | .str y => bnd mNil fun ds => DL.lift (h (.str y) ds) | _ => fun _ => none) g := nr rfl
theorem e_fldSet {c0 f : Str} {nat : Nat} : mFldSet i c0 f nat a g = bnd a (fun v g => match g[i]? with
  | some (.m true (.ins c fs)) => if c = c0 ∧ fs.lookup f = none ∧ fs.length < 1000 then
      (if fs.length + 1 < nat then some (.ok .nx (g.set i (.m true (.ins c (fs ++ [(f, v)])))))
      else if fs.length + 1 = nat then some (.ok .nx (g.set i (.s (.obj c (fs ++ [(f, v)]))))) else none)
    else none
  | _ => none) g := nr rfl
theorem e_callO {c0 : Str} {F : FM} : mCallO c0 F a ml g = bnd a (callS c0 F ml) g := nr rfl
theorem e_callS {c0 c : Str} {gs : List (Str × Dat)} {F : FM} : callS c0 F ml (.obj c gs) g = if c = c0 then bnd ml (fun ds g => resM g (F [] (.obj c gs :: ds))) g else none := by
  show (if c = c0 then bnd ml (fun ds g => resM g (F [] (.obj c gs :: ds))) else fun _ => none) g = _
  split <;> rfl
theorem e_seqN {s1 : M Fl} {m : M MO} : mSeqN s1 m g = bnd s1 (fun f => match f with | .nx => m | _ => fun _ => none) g := nr rfl
theorem e_opN {f : Dat → Dat → Option MO} : mOpN f a b g = bnd a (fun x => bnd b fun y => DL.lift (f x y)) g := nr rfl
end
/-! ### values -/
section
variable {i j : Int} {s : Bool} {b : Bool} {x y : Str} {xs ys : List Dat} {kvs : List (Key × Dat)}
theorem vv_gt : gtF (.int i) (.int j) = some (.bl (decide (j < i))) := nr rfl
theorem vv_ge : geF (.int i) (.int j) = some (.bl (decide (j ≤ i))) := nr rfl
theorem vv_geS : geF (.str x) (.str y) = some (.bl (!strLt x y)) := nr rfl
theorem vv_lt : ltF (.int i) (.int j) = some (.bl (decide (i < j))) := nr rfl
theorem vv_le : leF (.int i) (.int j) = some (.bl (decide (i ≤ j))) := nr rfl
theorem vv_add : addF (.int i) (.int j) = some (.int (i + j)) := nr rfl
theorem vv_addL : addF (.lst xs) (.lst ys) = if xs.length + ys.length ≤ sizeLine then some (.lst (xs ++ ys)) else none := nr rfl
theorem vv_addT {t : Bool} : addF (.tup s xs) (.tup t ys) = if xs.length + ys.length ≤ sizeLine then some (.tup false (xs ++ ys)) else none := nr rfl
theorem vv_sub : subF (.int i) (.int j) = some (.int (i - j)) := nr rfl
theorem vv_neg : negF (.int i) = some (.int (-i)) := nr rfl
theorem vv_abs : absF [.int i] = some (.int (if i < 0 then -i else i)) := nr rfl
theorem vv_int : intOfF [.int i] = some (.int i) := nr rfl
theorem vv_intb : intOfF [.bl b] = some (.int (if b = true then 1 else 0)) := nr rfl
theorem vv_lenL : lenF [.lst xs] = some (.int (xs.length : Nat)) := nr rfl
theorem vv_lenT : lenF [.tup s xs] = some (.int (xs.length : Nat)) := nr rfl
theorem vv_lenS : lenF [.str x] = if x.length ≤ sizeLine then some (.int (x.length : Nat)) else none := nr rfl
theorem vv_ixL : ixF (.lst xs) (.int i) = atI xs i := nr rfl
theorem vv_ixT : ixF (.tup s xs) (.int i) = atI xs i := nr rfl
theorem vv_b : asB (.bl b) = some b := nr rfl
theorem vv_tup : mkTup xs = if xs.length ≤ sizeLine then some (.tup true xs) else none := nr rfl
theorem vv_lst : mkLst xs = if xs.length ≤ sizeLine then some (.lst xs) else none := nr rfl
theorem vv_tupL : tupF [.lst xs] = some (.tup true xs) := nr rfl
theorem vv_tupT : tupF [.tup s xs] = some (.tup s xs) := nr rfl
theorem vv_listN : listN [.lst xs] = some (.lst xs) := nr rfl
theorem vv_seqL : seqD (.lst xs) = some xs := nr rfl
theorem vv_seqT : seqD (.tup s xs) = some xs := nr rfl
theorem vv_asc : isasciiF (.str x) [] = some (.bl (Txt.isascii x)) := nr rfl
theorem vv_alpha : isalphaF (.str x) [] = some (.bl (Txt.isalpha x)) := nr rfl
theorem vv_lower : islowerF (.str x) [] = some (.bl (Txt.islower x)) := nr rfl
theorem vv_strS : strF [.str x] = some (.str x) := nr rfl
theorem vv_moL : moD (.lst xs) = some (.lst xs) := nr rfl
theorem vv_moD : moD (.dic kvs) = some (.dic kvs) := nr rfl
theorem vv_tyI : tyName (.int i) = some "int" := nr rfl
theorem vv_tyB : tyName (.bl b) = some "bool" := nr rfl
theorem vv_tyS : tyName (.str x) = some "str" := nr rfl
theorem vv_tyL : tyName (.lst xs) = some "list" := nr rfl
theorem vv_tyT : tyName (.tup s xs) = some "tuple" := nr rfl
theorem vv_tyD : tyName (.dic kvs) = some "dict" := nr rfl
theorem vv_tyN : tyName .non = some "NoneType" := nr rfl
theorem vv_min : min2F [.int i, .int j] = some (.int (if j < i then j else i)) := nr rfl
theorem vv_max : max2F [.int i, .int j] = some (.int (if j > i then j else i)) := nr rfl
theorem vv_rg1 : rg1O [.int j] = if -(2 ^ 62) ≤ j ∧ j < 2 ^ 62 then some (rgD 0 j.toNat) else none := nr rfl
theorem vv_keys : keysO (.dic kvs) = some (kvs.map fun kv => kDat kv.1) := nr rfl
theorem vv_asI : asI (.int i) = some i := nr rfl
theorem vv_k1 : keyO (.int i) = some (.inl i) := nr rfl
theorem vv_k2 : keyO (.str x) = some (.inr x) := nr rfl
theorem vv_eq {u v : Dat} : eqF u v = (eqB u v).map Dat.bl := nr rfl
theorem vv_ne {u v : Dat} : neF u v = (eqB u v).map fun b => Dat.bl (!b) := nr rfl
theorem vv_eqI : eqB (.int i) (.int j) = some (i == j) := by
  simp [eqB, DL.plain, toP, SeqAt.shaped, PyData.canLay0, PyData.depth, PyData.eqv]
theorem vv_ii : kitB "int" "int" = some true := by decide +kernel
theorem vv_ib : kitB "int" "bool" = some false := by decide +kernel
theorem vv_bi : kitB "bool" "int" = some true := by decide +kernel
theorem vv_bb : kitB "bool" "bool" = some true := by decide +kernel
theorem vv_tt : kitB "tuple" "tuple" = some true := by decide +kernel
theorem vv_ss : kitB "str" "str" = some true := by decide +kernel
theorem vv_dd : kitB "dict" "dict" = some true := by decide +kernel
end
theorem rg1O_ok {n : Int} (h : 0 ≤ n) (h1 : n < 1000000000) : rg1O [.int n] = some (rgD 0 n.toNat) := by
  have c : -(2 ^ 62) ≤ n ∧ n < 2 ^ 62 := ⟨by omega, by omega⟩
  show (if _ then _ else _) = _
  rw [if_pos c]
theorem eqB_self {x : Dat} (h : DL.plain x = true) (h2 : SeqAt.shaped (toP x) = true) (h3 : (toP x).eqv (toP x) = true) : eqB x x = some true := by
  unfold eqB
  rw [h, h2, h3]
  rfl
theorem cut1 {xs : List Dat} : cutS' xs (some 1) none = xs.drop 1 := by
  unfold cutS'
  have e : HT.sIx xs.length 0 (some 1) = min 1 xs.length := HT.sIx_nat xs.length 0 1
  rw [e]
  show (xs.drop (min 1 xs.length)).take (xs.length - min 1 xs.length) = _
  cases xs with
  | nil => rfl
  | cons x r =>
    simp only [List.length_cons]
    rw [show min 1 (r.length + 1) = 1 by omega]
    simp
theorem rg1O_nat {n : Nat} (h1 : n < 1000000000) : rg1O [.int n] = some (rgD 0 n) := rg1O_ok (by omega) (by omega)
/-! ### loops -/
section
variable {t : Dat → M Unit} {body : M Fl} {ds : List Dat} {g : Frm}
theorem forL_inv (P : List Dat → Frm → Prop) (step : ∀ d r g, P (d :: r) g → ∃ g1 g2, t d g = some (.ok () g1) ∧ body g1 = some (.ok .nx g2) ∧ P r g2) : ∀ {ds : List Dat} {g : Frm}, P ds g → ∃ g', forL t body ds g = some (.ok .nx g') ∧ P [] g'
  | [], g, h => ⟨g, rfl, h⟩
  | d :: r, g, h => by
    obtain ⟨g1, g2, h1, h2, h3⟩ := step d r g h
    obtain ⟨g', h4, h5⟩ := forL_inv P step h3
    refine ⟨g', ?_, h5⟩
    unfold forL bnd
    rw [h1]
    simp only [bnd, h2]
    exact h4
/-- as long as all is well -/
theorem forL_stop (P : List Dat → Frm → Prop) (p : Dat → Bool) {z : Dat} (step : ∀ d r g, P (d :: r) g → ∃ g1 g2, t d g = some (.ok () g1) ∧ if p d = true then body g1 = some (.ok .nx g2) ∧ P r g2 else body g1 = some (.ok (.rt z) g2)) : ∀ {ds : List Dat} {g : Frm}, P ds g → ∃ g', if ds.all p = true then forL t body ds g = some (.ok .nx g') ∧ P [] g' else forL t body ds g = some (.ok (.rt z) g')
  | [], g, h => ⟨g, rfl, h⟩
  | d :: r, g, h => by
    obtain ⟨g1, g2, h1, h2⟩ := step d r g h
    rw [List.all_cons]
    cases hp : p d with
    | true =>
      rw [hp, if_pos rfl] at h2
      obtain ⟨h2, h3⟩ := h2
      obtain ⟨g', h4⟩ := forL_stop P p step h3
      refine ⟨g', ?_⟩
      rw [Bool.true_and]
      have e : forL t body (d :: r) g = forL t body r g2 := by
        rw [forL]
        unfold bnd
        rw [h1]
        simp only [bnd, h2]
      rw [e]
      exact h4
    | false =>
      rw [hp, if_neg (by decide)] at h2
      refine ⟨g2, ?_⟩
      rw [Bool.false_and, if_neg (by decide)]
      rw [forL]
      unfold bnd
      rw [h1]
      simp only [bnd, h2]
      rfl
end
section
variable {vs : List Nat} {t : Dat → M Unit} {mt : M Bool} {me : M Dat}
theorem noEx_ok {α : Type} {m : M α} {a : α} {g g' : Frm} (h : m g = some (.ok a g')) : noEx m g = some (.ok a g') := by unfold noEx; rw [h]
theorem compL_inv (P : List Dat → List Dat → Frm → Prop) (step : ∀ d r acc g, P (d :: r) acc g → acc.length < sizeLine ∧ ∃ g1 b g2, t d g = some (.ok () g1) ∧ mt g1 = some (.ok b g2) ∧ if b = true then ∃ y g3, me g2 = some (.ok y g3) ∧ P r (acc ++ [y]) (wipeG g3 vs) else P r acc (wipeG g2 vs)) :
    ∀ {ds acc : List Dat} {g : Frm}, P ds acc g → ∃ ys g', compL vs t mt me ds acc g = some (.ok ys g') ∧ P [] ys g'
  | [], acc, g, h => ⟨acc, g, rfl, h⟩
  | d :: r, acc, g, h => by
    obtain ⟨hl, g1, b, g2, h1, h2, h3⟩ := step d r acc g h
    unfold compL bnd
    rw [h1]
    simp only [bnd, noEx_ok h2]
    cases b with
    | true =>
      rw [if_pos rfl] at h3
      obtain ⟨y, g3, h4, h5⟩ := h3
      obtain ⟨ys, g', h6, h7⟩ := compL_inv P step h5
      refine ⟨ys, g', ?_, h7⟩
      simp only [if_true, noEx_ok h4, hl]
      exact h6
    | false =>
      rw [if_neg (by decide)] at h3
      obtain ⟨ys, g', h6, h7⟩ := compL_inv P step h3
      exact ⟨ys, g', h6, h7⟩
/-- nothing but the block's own names changes -/
theorem compL_fm (f : Dat → Option Dat) {w : Frm} : ∀ {ds acc : List Dat}, (∀ d ∈ ds, ∃ g1, t d w = some (.ok () g1) ∧ wipeG g1 vs = w ∧ match f d with
      | some y => mt g1 = some (.ok true g1) ∧ me g1 = some (.ok y g1)
      | none => mt g1 = some (.ok false g1)) → acc.length + ds.length ≤ sizeLine → compL vs t mt me ds acc w = some (.ok (acc ++ ds.filterMap f) w)
  | [], acc, _, _ => by simp [compL, DL.ret]
  | d :: r, acc, h, hl => by
    obtain ⟨g1, h1, hw, h2⟩ := h d List.mem_cons_self
    rw [List.length_cons] at hl
    unfold compL bnd
    rw [h1]
    cases hf : f d with
    | some y =>
      rw [hf] at h2
      obtain ⟨h3, h4⟩ := h2
      simp only [bnd, noEx_ok h3, if_true, noEx_ok h4, hw, show acc.length < sizeLine by omega]
      rw [compL_fm f (fun d hd => h d (List.mem_cons_of_mem _ hd)) (by rw [List.length_append, List.length_singleton]; omega), List.filterMap_cons, hf]
      simp
    | none =>
      rw [hf] at h2
      simp only [bnd, noEx_ok h2, hw]
      rw [if_neg (show ¬ (false = true) by decide), hw, compL_fm f (fun d hd => h d (List.mem_cons_of_mem _ hd)) (by omega), List.filterMap_cons, hf]
theorem mLc_fm {it : M (List Dat)} {g g' : Frm} {ds : List Dat} (f : Dat → Option Dat) (hi : it g = some (.ok ds g')) (hn : noM g' vs = true) (h : ∀ d ∈ ds, ∃ g1, t d (wipeG g' vs) = some (.ok () g1) ∧ wipeG g1 vs = wipeG g' vs ∧ match f d with
      | some y => mt g1 = some (.ok true g1) ∧ me g1 = some (.ok y g1)
      | none => mt g1 = some (.ok false g1)) (hl : ds.length ≤ sizeLine) : mLc vs it t mt me g = some (.ok (.lst (ds.filterMap f)) (backG g' (wipeG g' vs) vs)) := by
  unfold mLc mFzN mLcN bnd
  rw [hi]
  simp only [hn, if_true]
  rw [compL_fm f h (by simpa using hl)]
  rfl
theorem mLc_map {it : M (List Dat)} {g g' : Frm} {ds : List Dat} (f : Dat → Dat) (hi : it g = some (.ok ds g')) (hn : noM g' vs = true) (h : ∀ d ∈ ds, ∃ g1, t d (wipeG g' vs) = some (.ok () g1) ∧ wipeG g1 vs = wipeG g' vs ∧ mt g1 = some (.ok true g1) ∧ me g1 = some (.ok (f d) g1)) (hl : ds.length ≤ sizeLine) :
    mLc vs it t mt me g = some (.ok (.lst (ds.map f)) (backG g' (wipeG g' vs) vs)) := by
  have := mLc_fm (vs := vs) (t := t) (mt := mt) (me := me) (fun d => some (f d)) hi hn (fun d hd => let ⟨g1, h1, h2, h3, h4⟩ := h d hd; ⟨g1, h1, h2, h3, h4⟩) hl
  rw [this]
  congr 3
  induction ds with
  | nil => rfl
  | cons a r ih => simp [List.filterMap_cons]
end
theorem mLc_inv {vs : List Nat} {t : Dat → M Unit} {mt : M Bool} {me : M Dat} {it : M (List Dat)} {g g' : Frm} {ds : List Dat} (P : List Dat → List Dat → Frm → Prop) (hi : it g = some (.ok ds g')) (hn : noM g' vs = true) (h0 : P ds [] (wipeG g' vs))
    (step : ∀ d r acc g, P (d :: r) acc g → acc.length < sizeLine ∧ ∃ g1 b g2, t d g = some (.ok () g1) ∧ mt g1 = some (.ok b g2) ∧ if b = true then ∃ y g3, me g2 = some (.ok y g3) ∧ P r (acc ++ [y]) (wipeG g3 vs) else P r acc (wipeG g2 vs)) :
    ∃ ys g2, mLc vs it t mt me g = some (.ok (.lst ys) (backG g' g2 vs)) ∧ P [] ys g2 := by
  obtain ⟨ys, g2, e, p⟩ := compL_inv (vs := vs) (t := t) (mt := mt) (me := me) P step h0
  refine ⟨ys, g2, ?_, p⟩
  unfold mLc mFzN mLcN bnd
  rw [hi]
  simp only [hn, if_true, e]
  rfl
theorem eraseIdx_perm {α : Type} : ∀ {xs : List α} {i : Nat} (h : i < xs.length), ([xs[i]] ++ xs.eraseIdx i).Perm xs
  | x :: r, 0, _ => .refl _
  | x :: r, i + 1, h => by
    have := eraseIdx_perm (xs := r) (i := i) (by simpa using h)
    exact (List.Perm.swap x _ _).trans (this.cons x)
end DL

set_option Elab.async false
set_option linter.all false
set_option maxRecDepth 100000
set_option maxHeartbeats 1000000
/-! M2: sums as lists of (name, many): how many of each, the one list that is in order. -/
namespace DL
open PySem PySem.Spec PyProof.Rows L2 GX
abbrev Prs := List (Str × Int)
def cnt : Prs → Str → Int
  | [], _ => 0
  | p :: r, x => (if p.1 = x then p.2 else 0) + cnt r x
def nms (ps : Prs) : List Str := ps.map (·.1)
theorem mem_nms {p : Str × Int} {r : Prs} {x : Str} : x ∈ nms (p :: r) ↔ x = p.1 ∨ x ∈ nms r := List.mem_cons
def scl (t : Int) (ps : Prs) : Prs := ps.map fun p => (p.1, t * p.2)
theorem cnt_app (ps qs : Prs) (x : Str) : cnt (ps ++ qs) x = cnt ps x + cnt qs x := by
  induction ps with
  | nil => simp [cnt]
  | cons p r ih => simp only [List.cons_append, cnt, ih]; omega
theorem cnt_scl (t : Int) (ps : Prs) (x : Str) : cnt (scl t ps) x = t * cnt ps x := by
  induction ps with
  | nil => simp [cnt, scl]
  | cons p r ih =>
    show (if p.1 = x then t * p.2 else 0) + cnt (scl t r) x = _
    rw [ih]
    simp only [cnt, Int.mul_add]
    split <;> simp
theorem cnt_none {ps : Prs} {x : Str} (h : x ∉ nms ps) : cnt ps x = 0 := by
  induction ps with
  | nil => rfl
  | cons p r ih =>
    have h' : ¬ (x = p.1 ∨ x ∈ nms r) := by simpa [nms] using h
    simp only [cnt]
    rw [if_neg (fun e => h' (.inl e.symm)), ih (fun z => h' (.inr z))]
    rfl
theorem cnt_mem {ps : Prs} (n : (nms ps).Nodup) {p : Str × Int} (h : p ∈ ps) : cnt ps p.1 = p.2 := by
  induction ps with
  | nil => cases h
  | cons q r ih =>
    have n' : q.1 ∉ nms r ∧ (nms r).Nodup := List.nodup_cons.mp n
    simp only [cnt]
    rcases List.mem_cons.mp h with rfl | h
    · rw [if_pos rfl, cnt_none n'.1]; omega
    · have : q.1 ≠ p.1 := fun e => n'.1 (by rw [e]; exact List.mem_map_of_mem h)
      rw [if_neg this, ih n'.2 h]; omega
/-! ### in order -/
def ltS (a b : Str) : Prop := leS a b = true ∧ a ≠ b
structure Nrm (ps : Prs) : Prop where
  up : (nms ps).Pairwise ltS
  nz : ∀ p ∈ ps, p.2 ≠ 0
theorem ltS_irr {a : Str} : ¬ ltS a a := fun h => h.2 rfl
theorem ltS_trans {a b c : Str} (h1 : ltS a b) (h2 : ltS b c) : ltS a c := ⟨leS_trans _ _ _ h1.1 h2.1, fun e => by
  subst e
  exact h1.2 (leS_anti h1.1 h2.1)⟩
theorem Nrm.nodup {ps : Prs} (h : Nrm ps) : (nms ps).Nodup := h.up.imp fun h => h.2
theorem Nrm.tail {p : Str × Int} {ps : Prs} (h : Nrm (p :: ps)) : Nrm ps := ⟨(List.pairwise_cons.mp h.up).2, fun q hq => h.nz q (List.mem_cons_of_mem _ hq)⟩
theorem Nrm.mem {ps : Prs} (h : Nrm ps) {x : Str} {k : Int} : (x, k) ∈ ps ↔ k ≠ 0 ∧ cnt ps x = k := by
  constructor
  · intro m
    exact ⟨h.nz _ m, cnt_mem h.nodup m⟩
  · rintro ⟨h0, hk⟩
    by_cases m : x ∈ nms ps
    · obtain ⟨p, hp, rfl⟩ := List.mem_map.mp m
      have := cnt_mem h.nodup hp
      have e : k = p.2 := by omega
      rw [e]
      exact hp
    · rw [cnt_none m] at hk; omega
theorem nrm_ext : ∀ {ps qs : Prs}, Nrm ps → Nrm qs → (∀ x, cnt ps x = cnt qs x) → ps = qs := fun {ps qs} h1 h2 h => by
  have m : ∀ p, p ∈ ps ↔ p ∈ qs := fun ⟨x, k⟩ => by rw [h1.mem, h2.mem, h x]
  have nd : ∀ {l : Prs}, Nrm l → l.Nodup := fun {l} h => (List.pairwise_map.mp h.up).imp fun h e => h.2 (by rw [e])
  have pm : ps.Perm qs := (List.perm_ext_iff_of_nodup (nd h1) (nd h2)).mpr m
  exact List.Perm.eq_of_pairwise (le := fun a b => ltS a.1 b.1) (fun a b _ _ x y => absurd (ltS_trans x y) ltS_irr) (List.pairwise_map.mp h1.up) (List.pairwise_map.mp h2.up) pm
def NF (ps : Prs) : Prs := (sortSet (nms ps)).filterMap fun x => if cnt ps x ≠ 0 then some (x, cnt ps x) else none
theorem sortT_pw (xs : List Str) (n : xs.Nodup) : (sortT xs).Pairwise ltS := by
  have h1 : (sortT xs).Pairwise (fun a b => leS a b = true) := List.pairwise_mergeSort leS_trans leS_total xs
  have h2 : (sortT xs).Nodup := (List.mergeSort_perm xs leS).nodup_iff.mpr n
  exact (h1.and h2).imp fun ⟨a, b⟩ => ⟨a, b⟩
theorem sortT_mem {xs : List Str} {x : Str} : x ∈ sortT xs ↔ x ∈ xs := (List.mergeSort_perm xs leS).mem_iff
theorem sortSet_mem {xs : List Str} {x : Str} : x ∈ sortSet xs ↔ x ∈ xs := sortT_mem.trans (once_mem xs)
theorem fm_nms (f : Str → Int) (xs : List Str) : nms (xs.filterMap fun x => if f x ≠ 0 then some (x, f x) else none) = xs.filter fun x => f x != 0 := by
  induction xs with
  | nil => rfl
  | cons x r ih =>
    rw [List.filterMap_cons, List.filter_cons]
    by_cases h : f x = 0
    · simp only [h, ne_eq, not_true_eq_false, if_false]
      simpa using ih
    · have h' : (f x != 0) = true := by simpa using h
      simp only [ne_eq, h, not_false_eq_true, if_true, h']
      show x :: nms _ = _
      rw [ih]
theorem fm_cnt (f : Str → Int) (xs : List Str) (n : xs.Nodup) (x : Str) : cnt (xs.filterMap fun x => if f x ≠ 0 then some (x, f x) else none) x = if x ∈ xs then f x else 0 := by
  induction xs with
  | nil => rfl
  | cons y r ih =>
    have n' := List.nodup_cons.mp n
    rw [List.filterMap_cons]
    have ih := ih n'.2
    by_cases h : f y = 0
    · simp only [h, ne_eq, not_true_eq_false, if_false]
      simp only [ne_eq] at ih
      rw [ih]
      by_cases e : x = y
      · subst e
        rw [if_neg n'.1, if_pos List.mem_cons_self, h]
      · simp [List.mem_cons, e]
    · simp only [ne_eq, h, not_false_eq_true, if_true, cnt]
      simp only [ne_eq] at ih
      rw [ih]
      by_cases e : x = y
      · subst e
        rw [if_neg n'.1, if_pos List.mem_cons_self]
        simp
      · have e' : y ≠ x := fun z => e z.symm
        simp [List.mem_cons, e, e']
theorem nrm_fm (f : Str → Int) (xs : List Str) (h : xs.Pairwise ltS) : Nrm (xs.filterMap fun x => if f x ≠ 0 then some (x, f x) else none) := ⟨by rw [fm_nms]; exact h.sublist List.filter_sublist, fun p hp => by
  obtain ⟨x, _, e⟩ := List.mem_filterMap.mp hp
  by_cases z : f x ≠ 0
  · rw [if_pos z] at e; cases e; exact z
  · rw [if_neg z] at e; cases e⟩
theorem nrm_NF (ps : Prs) : Nrm (NF ps) := nrm_fm _ _ (sortT_pw _ (once_nodup _))
theorem cnt_NF (ps : Prs) (x : Str) : cnt (NF ps) x = cnt ps x := by
  unfold NF
  rw [fm_cnt (cnt ps) (sortSet (nms ps)) ((sortT_pw _ (once_nodup _)).imp fun h => h.2)]
  split
  · rfl
  · rename_i h
    rw [cnt_none fun z => h (sortSet_mem.mpr z)]
theorem NF_of {ps : Prs} (h : Nrm ps) : NF ps = ps := nrm_ext (nrm_NF ps) h (cnt_NF ps)
theorem NF_ext {ps qs : Prs} (h : ∀ x, cnt ps x = cnt qs x) : NF ps = NF qs := nrm_ext (nrm_NF _) (nrm_NF _) fun x => by rw [cnt_NF, cnt_NF, h]
theorem NF_nms {ps : Prs} {x : Str} (h : x ∈ nms (NF ps)) : x ∈ nms ps := by
  unfold NF at h
  rw [fm_nms] at h
  exact sortSet_mem.mp (List.mem_filter.mp h).1
/-! ### as data -/
def pD (p : Str × Int) : Dat := .tup true [.str p.1, .int p.2]
def psD (ps : Prs) : List Dat := ps.map pD
def dD (ps : Prs) : List (Key × Dat) := ps.map fun p => (Sum.inr p.1, Dat.int p.2)
def put (ps : Prs) (x : Str) (k : Int) : Prs := if x ∈ nms ps then ps.map (fun p => if p.1 = x then (p.1, k) else p) else ps ++ [(x, k)]
theorem any_dD {ps : Prs} {x : Str} : ((dD ps).any fun kv => decide (kv.1 = Sum.inr x)) = decide (x ∈ nms ps) := by
  induction ps with
  | nil => rfl
  | cons p r ih =>
    show (decide (Sum.inr p.1 = (Sum.inr x : Key)) || (dD r).any _) = _
    rw [ih]
    by_cases e : p.1 = x
    · subst e; simp [mem_nms]
    · have e' : x ≠ p.1 := fun z => e z.symm
      have : ¬ (Sum.inr p.1 = (Sum.inr x : Key)) := fun z => e (Sum.inr.inj z)
      simp [mem_nms, this, e']
theorem put_dD (ps : Prs) (x : Str) (k : Int) : putDk (dD ps) (.inr x) (.int k) = dD (put ps x k) := by
  unfold putDk put
  rw [any_dD]
  by_cases h : x ∈ nms ps
  · rw [decide_eq_true h, if_pos rfl, if_pos h]
    unfold dD
    rw [List.map_map, List.map_map]
    refine List.map_congr_left fun p _ => ?_
    by_cases e : p.1 = x
    · simp [e]
    · have : ¬ ((Sum.inr p.1 : Key) = Sum.inr x) := fun z => e (Sum.inr.inj z)
      simp [e]
  · rw [decide_eq_false h, if_neg (by decide), if_neg h]
    simp [dD]
theorem val_dD {ps : Prs} (n : (nms ps).Nodup) (x : Str) : valD (dD ps) (.inr x) = if x ∈ nms ps then some (.int (cnt ps x)) else none := by
  induction ps with
  | nil => rfl
  | cons p r ih =>
    have n' : p.1 ∉ nms r ∧ (nms r).Nodup := List.nodup_cons.mp n
    have ih := ih n'.2
    unfold valD at ih ⊢
    show ((((Sum.inr p.1, Dat.int p.2) :: dD r).find? _).map _) = _
    rw [List.find?_cons]
    by_cases e : p.1 = x
    · subst e
      simp only [decide_true, Option.map_some]
      rw [if_pos (by simp [mem_nms])]
      simp [cnt, cnt_none n'.1]
    · have : ¬ (Sum.inr p.1 = (Sum.inr x : Key)) := fun z => e (Sum.inr.inj z)
      simp only [this, decide_false]
      rw [ih]
      have e' : ¬ x = p.1 := fun z => e z.symm
      simp [mem_nms, cnt, e, e']
theorem put_nms {ps : Prs} {x : Str} {k : Int} : nms (put ps x k) = if x ∈ nms ps then nms ps else nms ps ++ [x] := by
  unfold put
  split
  · rename_i h
    clear h
    unfold nms
    rw [List.map_map]
    refine List.map_congr_left fun p _ => ?_
    by_cases e : p.1 = x <;> simp [e]
  · simp [nms]
theorem put_nodup {ps : Prs} {x : Str} {k : Int} (n : (nms ps).Nodup) : (nms (put ps x k)).Nodup := by
  rw [put_nms]
  split
  · exact n
  · rename_i h
    rw [List.nodup_append]
    exact ⟨n, by simp, fun a ha b hb e => by
      rw [List.mem_singleton] at hb
      subst hb; subst e
      exact h ha⟩
theorem put_cnt {ps : Prs} {x : Str} {k : Int} (n : (nms ps).Nodup) (y : Str) : cnt (put ps x k) y = if x = y then k else cnt ps y := by
  unfold put
  split
  · rename_i h
    induction ps with
    | nil => cases h
    | cons p r ih =>
      have n' : p.1 ∉ nms r ∧ (nms r).Nodup := List.nodup_cons.mp n
      have keep : ∀ {r : Prs}, x ∉ nms r → r.map (fun p => if p.1 = x then (p.1, k) else p) = r := fun {r} h => by
        induction r with
        | nil => rfl
        | cons q t ih =>
          have h' : ¬ (x = q.1 ∨ x ∈ nms t) := by simpa [nms] using h
          rw [List.map_cons, ih fun z => h' (.inr z), if_neg fun e => h' (.inl e.symm)]
      rw [List.map_cons]
      simp only [cnt]
      by_cases e : p.1 = x
      · subst e
        rw [keep n'.1]
        by_cases e2 : p.1 = y
        · subst e2; simp [cnt_none n'.1]
        · simp [e2]
      · have hr : x ∈ nms r := by
          rcases List.mem_cons.mp h with z | z
          · exact absurd z.symm e
          · exact z
        rw [if_neg e, ih n'.2 hr]
        by_cases e2 : p.1 = y
        · subst e2
          have : ¬ x = p.1 := fun z => e z.symm
          simp [this]
        · simp [e2]
  · rename_i h
    rw [cnt_app]
    by_cases e : x = y
    · subst e; simp [cnt, cnt_none h]
    · simp [cnt, e]
theorem pairs_psD : ∀ ps : Prs, pairsO (psD ps) = some (dD ps)
  | [] => rfl
  | p :: r => by
    have ih := pairs_psD r
    show (match pairO (pD p), pairsO (psD r) with | some p, some l => some (p :: l) | _, _ => none) = _
    rw [ih]
    rfl
theorem put_new {ps : Prs} {x : Str} {k : Int} (h : x ∉ nms ps) : put ps x k = ps ++ [(x, k)] := if_neg h
theorem merge_dD : ∀ {qs ps : Prs}, (nms (ps ++ qs)).Nodup → mergeD (dD ps) (dD qs) = dD (ps ++ qs)
  | [], ps, _ => by rw [List.append_nil]; rfl
  | q :: r, ps, n => by
    show mergeD (putDk (dD ps) (.inr q.1) (.int q.2)) (dD r) = _
    have h : q.1 ∉ nms ps := fun z => by
      have n' : (nms ps ++ nms (q :: r)).Nodup := by unfold nms at n ⊢; rw [← List.map_append]; exact n
      exact (List.nodup_append.mp n').2.2 _ z _ (List.mem_cons_self) rfl
    rw [put_dD, put_new h, merge_dD (by rw [List.append_assoc]; exact n), List.append_assoc]
    rfl
theorem dictO_T {ps : Prs} (n : (nms ps).Nodup) : dictO [.tup true (psD ps)] = some (dD ps) := by
  show (pairsO (psD ps)).map (mergeD []) = _
  rw [pairs_psD]
  exact congrArg some (merge_dD (ps := []) n)
theorem dictO_L {ps : Prs} (n : (nms ps).Nodup) : dictO [.lst (psD ps)] = some (dD ps) := by
  show (pairsO (psD ps)).map (mergeD []) = _
  rw [pairs_psD]
  exact congrArg some (merge_dD (ps := []) n)
theorem cnt_map (f : Str → Int) : ∀ {xs : List Str}, xs.Nodup → ∀ x, cnt (xs.map fun y => (y, f y)) x = if x ∈ xs then f x else 0
  | [], _, x => rfl
  | y :: r, n, x => by
    have n' := List.nodup_cons.mp n
    rw [List.map_cons]
    simp only [cnt]
    rw [cnt_map f n'.2]
    by_cases e : y = x
    · subst e; simp [n'.1]
    · have e' : ¬ x = y := fun z => e z.symm
      simp [e, e']
/-- sorted names with their counts -/
theorem sort_cnt {ps : Prs} (n : (nms ps).Nodup) : (sortT ((nms ps).filter fun x => cnt ps x != 0)).map (fun x => (x, cnt ps x)) = NF ps := by
  have nd : ((nms ps).filter fun x => cnt ps x != 0).Nodup := n.sublist List.filter_sublist
  have pw := sortT_pw _ nd
  refine nrm_ext ⟨?_, ?_⟩ (nrm_NF ps) fun x => ?_
  · unfold nms
    rw [List.map_map]
    have : ((fun p : Str × Int => p.1) ∘ fun x => (x, cnt ps x)) = id := rfl
    rw [this, List.map_id]
    exact pw
  · intro p hp
    obtain ⟨x, hx, rfl⟩ := List.mem_map.mp hp
    have := (List.mem_filter.mp (sortT_mem.mp hx)).2
    simpa using this
  · rw [cnt_NF, cnt_map _ (pw.imp fun h => h.2)]
    split
    · rfl
    · rename_i h
      by_cases m : x ∈ nms ps
      · have : ¬ (cnt ps x != 0) = true := fun z => h (sortT_mem.mpr (List.mem_filter.mpr ⟨m, z⟩))
        simp at this
        exact this.symm
      · rw [cnt_none m]
theorem strs_map : ∀ xs : List Str, strsO (xs.map Dat.str) = some xs
  | [] => rfl
  | x :: r => by
    show (strsO (r.map Dat.str)).map (x :: ·) = _
    rw [strs_map r]
    rfl
theorem sortSF_ok {xs : List Str} (h : xs.length < 64) : sortSF [.lst (xs.map Dat.str)] = some (.lst ((sortT xs).map Dat.str)) := by
  unfold sortSF
  simp only [strs_map]
  rw [if_pos h]
theorem sortSetF_ok {xs : List Str} (h : xs.length < 64) : sortSetF (.lst (xs.map Dat.str)) = some (.lst ((sortSet xs).map Dat.str)) := by
  unfold sortSetF
  simp only [strs_map]
  rw [if_pos h]
theorem keys_dD (ps : Prs) : keysO (.dic (dD ps)) = some ((nms ps).map Dat.str) := by
  show some ((dD ps).map fun kv => kDat kv.1) = _
  unfold dD nms
  rw [List.map_map, List.map_map]
  rfl
theorem listF_dD (ps : Prs) : listF [.dic (dD ps)] = some (.lst ((nms ps).map Dat.str)) := by
  show some (Dat.lst ((dD ps).map fun kv => kDat kv.1)) = _
  unfold dD nms
  rw [List.map_map, List.map_map]
  rfl
theorem once_len : ∀ xs : List Str, (onceL xs).length ≤ xs.length
  | [] => Nat.le_refl _
  | x :: r => by
    have := once_len r
    unfold onceL
    split
    · rw [List.length_cons]; omega
    · rw [List.length_cons, List.length_cons]; omega
theorem sortT_len (xs : List Str) : (sortT xs).length = xs.length := (List.mergeSort_perm xs leS).length_eq
theorem NF_len (ps : Prs) : (NF ps).length ≤ ps.length := by
  unfold NF
  refine Nat.le_trans (List.length_filterMap_le _ _) ?_
  unfold sortSet
  rw [sortT_len]
  refine Nat.le_trans (once_len _) ?_
  simp [nms]
/-- no name more than those of a list -/
theorem sub_len {xs ys : List Str} (n : xs.Nodup) (h : ∀ x ∈ xs, x ∈ ys) : xs.length ≤ ys.length := by
  have pm := perm_of_mem (xs := xs) (ys := onceL (ys.filter fun y => decide (y ∈ xs))) n (once_nodup _) fun k => by
    rw [once_mem, List.mem_filter]
    exact ⟨fun z => ⟨h k z, by simpa using z⟩, fun z => by simpa using z.2⟩
  rw [pm.length_eq]
  exact Nat.le_trans (once_len _) (List.length_filter_le _ _)
/-- counts that are put one by one -/
def addP (ps : Prs) (x : Str) (k : Int) : Prs := put ps x (cnt ps x + k)
theorem addP_cnt {ps : Prs} {x : Str} {k : Int} (n : (nms ps).Nodup) (y : Str) : cnt (addP ps x k) y = cnt ps y + if x = y then k else 0 := by
  unfold addP
  rw [put_cnt n]
  split
  · rename_i e; subst e; rfl
  · simp
theorem addP_nodup {ps : Prs} {x : Str} {k : Int} (n : (nms ps).Nodup) : (nms (addP ps x k)).Nodup := put_nodup n
theorem addP_nms {ps : Prs} {x y : Str} {k : Int} : y ∈ nms (addP ps x k) ↔ y ∈ nms ps ∨ y = x := by
  unfold addP
  rw [put_nms]
  split
  · exact ⟨.inl, fun h => h.elim id fun e => e ▸ (by assumption)⟩
  · rw [List.mem_append, List.mem_singleton]
theorem addP_len {ps : Prs} {x : Str} {k : Int} : (addP ps x k).length ≤ ps.length + 1 := by
  unfold addP put
  split
  · simp
  · simp
def addAll (ps qs : Prs) : Prs := qs.foldl (fun acc q => addP acc q.1 q.2) ps
theorem addAll_cnt : ∀ {qs ps : Prs}, (nms ps).Nodup → ∀ y, cnt (addAll ps qs) y = cnt ps y + cnt qs y
  | [], ps, _, y => by show cnt ps y = cnt ps y + 0; omega
  | q :: r, ps, n, y => by
    show cnt (addAll (addP ps q.1 q.2) r) y = _
    rw [addAll_cnt (addP_nodup n), addP_cnt n]
    simp only [cnt]
    omega
theorem addAll_nodup : ∀ {qs ps : Prs}, (nms ps).Nodup → (nms (addAll ps qs)).Nodup
  | [], _, n => n
  | q :: r, _, n => addAll_nodup (qs := r) (addP_nodup n)
theorem addAll_nms : ∀ {qs ps : Prs} {y : Str}, y ∈ nms (addAll ps qs) ↔ y ∈ nms ps ∨ y ∈ nms qs
  | [], ps, y => by simp [addAll, nms]
  | q :: r, ps, y => by
    show y ∈ nms (addAll (addP ps q.1 q.2) r) ↔ _
    rw [addAll_nms, addP_nms, mem_nms, or_assoc]
theorem addAll_len : ∀ {qs ps : Prs}, (addAll ps qs).length ≤ ps.length + qs.length
  | [], ps => Nat.le_refl _
  | q :: r, ps => by
    have h1 := addAll_len (qs := r) (ps := addP ps q.1 q.2)
    have h2 := addP_len (ps := ps) (x := q.1) (k := q.2)
    show (addAll (addP ps q.1 q.2) r).length ≤ _
    rw [List.length_cons]
    omega
theorem val_get {ps : Prs} (n : (nms ps).Nodup) (x : Str) : ((valD (dD ps) (.inr x)).getD (.int 0)) = .int (cnt ps x) := by
  rw [val_dD n]
  split
  · rfl
  · rename_i h
    rw [cnt_none h]
    rfl
/-- a dict made pair by pair -/
theorem nms_scl (t : Int) (ps : Prs) : nms (scl t ps) = nms ps := by
  unfold nms scl
  rw [List.map_map]
  rfl
/-! ### what a sum comes to -/
def ev (v : Str → Int) : Prs → Int
  | [] => 0
  | p :: r => p.2 * v p.1 + ev v r
theorem ev_app (v : Str → Int) (ps qs : Prs) : ev v (ps ++ qs) = ev v ps + ev v qs := by
  induction ps with
  | nil => simp [ev]
  | cons p r ih => simp only [List.cons_append, ev, ih]; omega
theorem ev_scl (v : Str → Int) (t : Int) (ps : Prs) : ev v (scl t ps) = t * ev v ps := by
  induction ps with
  | nil => simp [ev, scl]
  | cons p r ih =>
    show t * p.2 * v p.1 + ev v (scl t r) = _
    rw [ih]
    simp only [ev, Int.mul_add, Int.mul_assoc]
def tot (f : Str → Int) : List Str → Int
  | [] => 0
  | x :: r => f x + tot f r
theorem tot_add (f g : Str → Int) (xs : List Str) : tot (fun x => f x + g x) xs = tot f xs + tot g xs := by
  induction xs with
  | nil => rfl
  | cons x r ih => simp only [tot, ih]; omega
theorem tot_congr {f g : Str → Int} {xs : List Str} (h : ∀ x ∈ xs, f x = g x) : tot f xs = tot g xs := by
  induction xs with
  | nil => rfl
  | cons x r ih => simp only [tot, h x List.mem_cons_self, ih fun y hy => h y (List.mem_cons_of_mem _ hy)]
theorem tot_one {y : Str} {k : Int} {xs : List Str} (n : xs.Nodup) : tot (fun x => if y = x then k else 0) xs = if y ∈ xs then k else 0 := by
  induction xs with
  | nil => rfl
  | cons x r ih =>
    have n' := List.nodup_cons.mp n
    simp only [tot, ih n'.2]
    by_cases e : y = x
    · subst e; simp [n'.1]
    · simp [e]
theorem tot_zero (xs : List Str) : tot (fun _ => 0) xs = 0 := by
  induction xs with
  | nil => rfl
  | cons x r ih => simp only [tot, ih]; rfl
theorem ev_tot (v : Str → Int) {xs : List Str} (n : xs.Nodup) : ∀ {ps : Prs}, (∀ x ∈ nms ps, x ∈ xs) → ev v ps = tot (fun x => cnt ps x * v x) xs
  | [], _ => by
    have : tot (fun x => cnt [] x * v x) xs = tot (fun _ => 0) xs := tot_congr fun x _ => by simp [cnt]
    rw [this, tot_zero]
    rfl
  | p :: r, h => by
    have ih := ev_tot v n (ps := r) fun x hx => h x (List.mem_cons_of_mem _ hx)
    have hp := h p.1 List.mem_cons_self
    have : tot (fun x => cnt (p :: r) x * v x) xs = tot (fun x => (if p.1 = x then p.2 * v p.1 else 0) + cnt r x * v x) xs := tot_congr fun x _ => by
      simp only [cnt]
      by_cases e : p.1 = x
      · subst e; simp [Int.add_mul]
      · simp [e]
    rw [this, tot_add, tot_one n, if_pos hp, ← ih]
    rfl
theorem ev_ext (v : Str → Int) {ps qs : Prs} (h : ∀ x, cnt ps x = cnt qs x) : ev v ps = ev v qs := by
  have n := once_nodup (nms ps ++ nms qs)
  rw [ev_tot v n (ps := ps) fun x hx => (once_mem _).mpr (List.mem_append_left _ hx), ev_tot v n (ps := qs) fun x hx => (once_mem _).mpr (List.mem_append_right _ hx)]
  exact tot_congr fun x _ => by rw [h]
theorem ev_NF (v : Str → Int) (ps : Prs) : ev v (NF ps) = ev v ps := ev_ext v (cnt_NF ps)
theorem ev_bound {v : Str → Int} {A B : Nat} (hv : ∀ x, (v x).natAbs ≤ B) : ∀ {ps : Prs}, (∀ p ∈ ps, p.2.natAbs ≤ A) → (ev v ps).natAbs ≤ ps.length * (A * B)
  | [], _ => by simp [ev]
  | p :: r, h => by
    have ih := ev_bound hv (ps := r) fun q hq => h q (List.mem_cons_of_mem _ hq)
    have h1 : (p.2 * v p.1).natAbs ≤ A * B := by rw [Int.natAbs_mul]; exact Nat.mul_le_mul (h p List.mem_cons_self) (hv p.1)
    simp only [ev, List.length_cons, Nat.add_mul, Nat.one_mul]
    have := Int.natAbs_add_le (p.2 * v p.1) (ev v r)
    omega
theorem nf_bound {ps : Prs} {A : Nat} (h : ∀ x, (cnt ps x).natAbs ≤ A) : ∀ p ∈ NF ps, p.2.natAbs ≤ A := fun p hp => by
  have := cnt_mem (nrm_NF ps).nodup hp
  rw [cnt_NF] at this
  rw [← this]
  exact h p.1
theorem cnt_bound {ps : Prs} {A : Nat} (n : (nms ps).Nodup) (h : ∀ p ∈ ps, p.2.natAbs ≤ A) (x : Str) : (cnt ps x).natAbs ≤ A := by
  by_cases m : x ∈ nms ps
  · obtain ⟨p, hp, rfl⟩ := List.mem_map.mp m
    rw [cnt_mem n hp]
    exact h p hp
  · rw [cnt_none m]; exact Nat.zero_le _
end DL

set_option Elab.async false
set_option linter.all false
set_option maxRecDepth 100000
set_option maxHeartbeats 1000000
/-! M5: what is shown of data of ASCII signs has ASCII signs alone. -/
namespace DL
open PySem PySem.Spec PyProof.Rows L2 GX PySem.W.KSb
open PySem.Builtin.Str (reprChar)
theorem hex_asc : ∀ c < 128, ∀ d ∈ (Nat.toDigits 16 c).map Char.toNat, d < 128 := by decide +kernel
theorem reprChar_asc {q c : Nat} (hq : q < 128) (hc : c < 128) : ∀ d ∈ reprChar q c, d < 128 := by
  have hx := hex_asc c hc
  have h2 : ∀ w, ∀ d ∈ List.replicate (w - ((Nat.toDigits 16 c).map Char.toNat).length) 48 ++ (Nat.toDigits 16 c).map Char.toNat, d < 128 := fun w d hd => by
    rcases List.mem_append.mp hd with h | h
    · rw [(List.mem_replicate.mp h).2]; decide
    · exact hx d h
  intro d hd
  unfold reprChar at hd
  dsimp only at hd
  split at hd
  · simp at hd; omega
  split at hd
  · simp at hd; omega
  split at hd
  · simp at hd; omega
  split at hd
  · simp at hd; omega
  split at hd
  · simp at hd; omega
  split at hd
  · rcases List.mem_append.mp hd with h | h
    · simp at h; omega
    · exact h2 2 d h
  split at hd
  · rcases List.mem_append.mp hd with h | h
    · simp at h; omega
    · exact h2 4 d h
  · rcases List.mem_append.mp hd with h | h
    · simp at h; omega
    · exact h2 8 d h
theorem fold_asc {q : Nat} (hq : q < 128) : ∀ (l : List Nat) (acc : Array Nat), (∀ c ∈ l, c < 128) → (∀ d ∈ acc.toList, d < 128) → ∀ d ∈ (l.foldl (fun out c => out ++ (reprChar q c).toArray) acc).toList, d < 128
  | [], acc, _, h => h
  | c :: r, acc, hl, h => by
    rw [List.foldl_cons]
    refine fold_asc hq r _ (fun d hd => hl d (List.mem_cons_of_mem _ hd)) fun d hd => ?_
    simp only [Array.toList_append] at hd
    rcases List.mem_append.mp hd with z | z
    · exact h d z
    · exact reprChar_asc hq (hl c List.mem_cons_self) d (by simpa using z)
theorem reprText_asc {x : Str} (h : ascT x = true) : Asc (reprText x) := by
  have hx : ∀ c ∈ x.cps.toList, c < 128 := fun c hc => of_decide_eq_true (List.all_eq_true.mp h c hc)
  have hq : reprQuote x < 128 := by
    unfold reprQuote
    split <;> decide
  intro c hc
  unfold reprText at hc
  have hc' : c ∈ ((x.cps.foldl (fun out c => out ++ (reprChar (reprQuote x) c).toArray) #[reprQuote x]).push (reprQuote x)).toList := hc
  rw [Array.toList_push, ← Array.foldl_toList] at hc'
  rcases List.mem_append.mp hc' with z | z
  · exact fold_asc hq x.cps.toList #[reprQuote x] hx (fun d hd => by simp at hd; omega) c z
  · simp at z; omega
theorem join_asc {s : Str} (hs : Asc s) : ∀ {ts : List Str}, (∀ t ∈ ts, Asc t) → Asc (Str.join s ts)
  | [], _ => asc_empty
  | [x], h => h x List.mem_cons_self
  | x :: y :: r, h => by
    show Asc (x ++ s ++ Str.join s (y :: r))
    exact asc_app (asc_app (h x List.mem_cons_self) hs) (join_asc hs fun t ht => h t (List.mem_cons_of_mem _ ht))
theorem textFrom_asc : ∀ (ts : List Str) (k : Nat) (acc : Str), Asc acc → (∀ t ∈ ts, Asc t) → Asc (textFrom k acc ts)
  | [], k, acc, h, _ => h
  | t :: r, k, acc, h, ht => by
    show Asc (textFrom (k + 1) (acc ++ (if k > 0 then ", " else "" : String) ++ t) r)
    refine textFrom_asc r _ _ (asc_app (asc_app h ?_) (ht t List.mem_cons_self)) fun t h => ht t (List.mem_cons_of_mem _ h)
    split <;> exact asc_of (by decide)
mutual
theorem shown_asc : ∀ d : PyData, asc d = true → Asc d.shown
  | .none, _ => by unfold PyData.shown; exact asc_of (by decide)
  | .bool b, _ => by cases b <;> (unfold PyData.shown; exact asc_of (by decide))
  | .int i, _ => by unfold PyData.shown; exact asc_num i
  | .str x, h => by
    simp only [PyData.shown]
    exact reprText_asc (by simpa only [asc] using h)
  | .list xs, h => by
    simp only [asc] at h
    simp only [PyData.shown]
    unfold listText
    exact asc_app (textFrom_asc _ _ _ (asc_of (by decide)) (shown_ascA xs h)) (asc_of (by decide))
  | .tuple xs, h => by
    simp only [asc] at h
    simp only [PyData.shown]
    unfold tupleText
    refine asc_app (asc_app (asc_of (by decide)) (join_asc (asc_of (by decide)) (shown_ascA xs h))) ?_
    split <;> exact asc_of (by decide)
  | .dict kvs, h => by
    simp only [asc] at h
    simp only [PyData.shown]
    unfold dictText
    exact asc_app (asc_app (asc_of (by decide)) (join_asc (asc_of (by decide)) (shown_ascK kvs h))) (asc_of (by decide))
theorem shown_ascA : ∀ xs : List PyData, ascA xs = true → ∀ t ∈ PyData.shownAll xs, Asc t
  | [], _, t, ht => by simp [PyData.shownAll] at ht
  | x :: xs, h, t, ht => by
    simp only [ascA, Bool.and_eq_true] at h
    simp only [PyData.shownAll] at ht
    rcases List.mem_cons.mp ht with rfl | ht
    · exact shown_asc x h.1
    · exact shown_ascA xs h.2 t ht
theorem shown_ascK : ∀ xs : List (PyData × PyData), ascK xs = true → ∀ t ∈ PyData.shownKv xs, Asc t
  | [], _, t, ht => by simp [PyData.shownKv] at ht
  | (k, v) :: xs, h, t, ht => by
    simp only [ascK, Bool.and_eq_true] at h
    simp only [PyData.shownKv] at ht
    rcases List.mem_cons.mp ht with rfl | ht
    · exact asc_app (asc_app (shown_asc k h.1.1) (asc_of (by decide))) (shown_asc v h.1.2)
    · exact shown_ascK xs h.2 t ht
end
theorem asc_ok0 {x : Str} (h : Asc x) : PyData.strOk x = true := by
  unfold PyData.strOk
  rw [← Array.all_toList, List.all_eq_true]
  intro c hc
  have := h c hc
  simp
  omega
theorem eqB_str {x y : Str} (h : PyData.strOk x = true) (h2 : PyData.strOk y = true) : eqB (.str x) (.str y) = some (x == y) := by
  unfold eqB
  simp [DL.plain, toP, SeqAt.shaped, PyData.canLay0, h, h2, PyData.eqv, PyData.depth]
/-- texts of equal data -/
theorem eqB_shown {x y : Dat} (e : toP x = toP y) (h : asc (toP x) = true) : eqB (.str (toP x).shown) (.str (toP y).shown) = some true := by
  rw [← e, eqB_str (asc_ok0 (shown_asc _ h)) (asc_ok0 (shown_asc _ h))]
  simp
end DL

set_option Elab.async false
set_option linter.all false
set_option maxRecDepth 100000
set_option maxHeartbeats 1000000
namespace K04
open PySem PySem.Spec PyProof.Rows L2 GX DL
theorem take1 {a b c n : Int} (ha : 0 < a) (hn : 0 < n) (hn2 : n.natAbs < 2 ^ 200) : F_law_take [pot a b c] [.int n] = some (.ok (.int (a % n)) [pot (a / n) b c]) := by
  unfold F_law_take runF
  simp [m_law_take, pot, ha, modF_ok hn, fdivF_ok hn hn2, e_ret, e_lift, e_bnd, e_var, e_C, e_op, e_un, e_nil, e_cons, e_fn, e_test, e_notT, e_andT, e_orT, e_notV, e_andV, e_orV, e_if, e_tt, e_ff, e_chain, e_tup, e_lst, e_next, e_seq, e_nx, e_rt, e_drop, e_mret, e_retN, e_set, e_asg, e_par, e_par3, e_par2N, e_setD, e_setM, e_own, e_isi, e_tupT, e_nilT, e_consT, e_lstN, e_dic0, e_fnN, e_callN, e_fzN, e_seqO, e_itA, e_for, e_attr, e_raise, e_make, e_part, e_slice, e_ixM, e_setIx, e_append, e_popAt, e_lenM, e_fz, e_call, e_prop, e_getM, e_putM, e_getD, e_ixD, e_inD, e_methS0, e_fldSet, e_callO, e_callS, e_seqN, e_opN, vv_gt, vv_ge, vv_geS, vv_lt, vv_le, vv_add, vv_addL, vv_addT, vv_sub, vv_neg, vv_abs, vv_int, vv_intb, vv_lenL, vv_lenT, vv_lenS, vv_ixL, vv_ixT, vv_b, vv_tup, vv_lst, vv_tupL, vv_tupT, vv_listN, vv_seqL, vv_seqT, vv_asc, vv_alpha, vv_lower, vv_strS, vv_moL, vv_moD, vv_tyI, vv_tyB, vv_tyS, vv_tyL, vv_tyT, vv_tyD, vv_tyN, vv_min, vv_max, vv_keys, vv_asI, vv_k1, vv_k2, vv_eq, vv_ne, vv_eqI, vv_ii, vv_ib, vv_bi, vv_bb, vv_tt, vv_ss, vv_dd, ixN, lstAt, dicAt, atI_0, atI_1, atI_2, outs, getMs, putM, putMs, ownB, isM, isS, okF, okI, sizeLine]
theorem atI_5 {c : Int} (h : 0 ≤ c) : ∃ p, atI [Dat.int 2147483647, .int 2147483629, .int 2147483587, .int 2147483579, .int 2147483563] (c % 5) = some (.int p) ∧ 0 < p ∧ p ≤ 2147483647 := by
  have h1 : c % 5 = 0 ∨ c % 5 = 1 ∨ c % 5 = 2 ∨ c % 5 = 3 ∨ c % 5 = 4 := by omega
  rcases h1 with h | h | h | h | h <;> rw [h] <;> exact ⟨_, rfl, by decide, by decide⟩
theorem take2 {a b c n : Int} (ha : a ≤ 0) (hb : 0 ≤ b) (hb2 : b < 2 ^ 62) (hc : 0 ≤ c) (hc2 : c < 1000000) (hn : 0 < n) (hn2 : n.natAbs < 2 ^ 200) : ∃ r, F_law_take [pot a b c] [.int n] = some (.ok (.int (r % n)) [pot a b (c + 1)]) := by
  have h0 : ¬ 0 < a := by omega
  obtain ⟨p, hp, p0, p1⟩ := atI_5 (c := c + 1) (by omega)
  have e1 : mulF (.int 91043) (.int (c + 1)) = some (.int (91043 * (c + 1))) := mulF_ok (by decide) (by omega)
  have e2 : mulF (.int (91043 * (c + 1))) (.int (c + 1)) = some (.int (91043 * (c + 1) * (c + 1))) := mulF_ok (by omega) (by omega)
  have k1 : 91043 * (c + 1) * (c + 1) ≤ 91043 * 1000000 * 1000000 := Int.mul_le_mul (by omega) (by omega) (by omega) (by omega)
  have k0 : 0 ≤ 91043 * (c + 1) * (c + 1) := Int.mul_nonneg (by omega) (by omega)
  generalize hs : b + 91043 * (c + 1) * (c + 1) + 77 = s
  have e3 : powF (.int s) (.int 3) = some (.int (s ^ 3)) := powF_ok (by decide) (by decide) (by omega)
  generalize ht : s ^ 3 % p = t
  have t0 : 0 ≤ t := by rw [← ht]; exact Int.emod_nonneg _ (by omega)
  have t1 : t < p := by rw [← ht]; exact Int.emod_lt_of_pos _ p0
  have e4 : mulF (.int 97) (.int (c + 1)) = some (.int (97 * (c + 1))) := mulF_ok (by decide) (by omega)
  have e5 : mulF (.int t) (.int (t % 10007 + 97 * (c + 1))) = some (.int (t * (t % 10007 + 97 * (c + 1)))) := mulF_ok (by omega) (by omega)
  exact ⟨t * (t % 10007 + 97 * (c + 1)) / 127, by
    unfold F_law_take runF
    simp [m_law_take, pot, h0, modF_ok hn, modF_ok (show (0 : Int) < 5 by decide), modF_ok (show (0 : Int) < 10007 by decide), fdivF_ok (show (0 : Int) < 127 by decide) (by decide), modF_ok p0, hp, e1, e2, e3, e4, e5, hs, ht, e_ret, e_lift, e_bnd, e_var, e_C, e_op, e_un, e_nil, e_cons, e_fn, e_test, e_notT, e_andT, e_orT, e_notV, e_andV, e_orV, e_if, e_tt, e_ff, e_chain, e_tup, e_lst, e_next, e_seq, e_nx, e_rt, e_drop, e_mret, e_retN, e_set, e_asg, e_par, e_par3, e_par2N, e_setD, e_setM, e_own, e_isi, e_tupT, e_nilT, e_consT, e_lstN, e_dic0, e_fnN, e_callN, e_fzN, e_seqO, e_itA, e_for, e_attr, e_raise, e_make, e_part, e_slice, e_ixM, e_setIx, e_append, e_popAt, e_lenM, e_fz, e_call, e_prop, e_getM, e_putM, e_getD, e_ixD, e_inD, e_methS0, e_fldSet, e_callO, e_callS, e_seqN, e_opN, vv_gt, vv_ge, vv_geS, vv_lt, vv_le, vv_add, vv_addL, vv_addT, vv_sub, vv_neg, vv_abs, vv_int, vv_intb, vv_lenL, vv_lenT, vv_lenS, vv_ixL, vv_ixT, vv_b, vv_tup, vv_lst, vv_tupL, vv_tupT, vv_listN, vv_seqL, vv_seqT, vv_asc, vv_alpha, vv_lower, vv_strS, vv_moL, vv_moD, vv_tyI, vv_tyB, vv_tyS, vv_tyL, vv_tyT, vv_tyD, vv_tyN, vv_min, vv_max, vv_keys, vv_asI, vv_k1, vv_k2, vv_eq, vv_ne, vv_eqI, vv_ii, vv_ib, vv_bi, vv_bb, vv_tt, vv_ss, vv_dd, ixN, lstAt, dicAt, atI_0, atI_1, atI_2, outs, getMs, putM, putMs, ownB, isM, isS, okF, okI, sizeLine]
    ⟩
def PotOk (k : Nat) (o : MO) : Prop := ∃ a b c : Int, o = pot a b c ∧ 0 ≤ b ∧ b < 2 ^ 62 ∧ 0 ≤ c ∧ c ≤ k
theorem PotOk.mono {k k' : Nat} {o : MO} (h : PotOk k o) (hk : k ≤ k') : PotOk k' o := by
  obtain ⟨a, b, c, h1, h2, h3, h4, h5⟩ := h
  exact ⟨a, b, c, h1, h2, h3, h4, by omega⟩
theorem take_ok {k : Nat} {o : MO} {n : Int} (h : PotOk k o) (hk : k < 1000000) (hn : 0 < n) (hn2 : n < 2 ^ 100) : ∃ r o', F_law_take [o] [.int n] = some (.ok (.int r) [o']) ∧ 0 ≤ r ∧ r < n ∧ PotOk (k + 1) o' := by
  obtain ⟨a, b, c, rfl, h2, h3, h4, h5⟩ := h
  by_cases ha : 0 < a
  · exact ⟨_, _, take1 ha hn (by omega), Int.emod_nonneg _ (by omega), Int.emod_lt_of_pos _ hn, _, _, _, rfl, h2, h3, h4, by omega⟩
  · obtain ⟨r, e⟩ := take2 (a := a) (b := b) (c := c) (n := n) (by omega) h2 h3 h4 (by omega) hn (by omega)
    exact ⟨_, _, e, Int.emod_nonneg _ (by omega), Int.emod_lt_of_pos _ hn, _, _, _, rfl, h2, h3, by omega, by omega⟩
theorem of_ok {k : Nat} {o : MO} {xs : List Dat} (h : PotOk k o) (hk : k < 1000000) (hn : 0 < xs.length) (hn2 : xs.length < 2 ^ 100) : ∃ x o', F_law_of [o] [.lst xs] = some (.ok x [o']) ∧ x ∈ xs ∧ PotOk (k + 1) o' := by
  obtain ⟨r, o', e, r0, r1, p⟩ := take_ok (n := (xs.length : Nat)) h hk (by omega) (by omega)
  have a := atI_ok (xs := xs) r0 r1
  refine ⟨xs[r.toNat]'(by omega), o', ?_, List.getElem_mem _, p⟩
  unfold F_law_of runF
  simp [m_law_of, e, a, e_ret, e_lift, e_bnd, e_var, e_C, e_op, e_un, e_nil, e_cons, e_fn, e_test, e_notT, e_andT, e_orT, e_notV, e_andV, e_orV, e_if, e_tt, e_ff, e_chain, e_tup, e_lst, e_next, e_seq, e_nx, e_rt, e_drop, e_mret, e_retN, e_set, e_asg, e_par, e_par3, e_par2N, e_setD, e_setM, e_own, e_isi, e_tupT, e_nilT, e_consT, e_lstN, e_dic0, e_fnN, e_callN, e_fzN, e_seqO, e_itA, e_for, e_attr, e_raise, e_make, e_part, e_slice, e_ixM, e_setIx, e_append, e_popAt, e_lenM, e_fz, e_call, e_prop, e_getM, e_putM, e_getD, e_ixD, e_inD, e_methS0, e_fldSet, e_callO, e_callS, e_seqN, e_opN, vv_gt, vv_ge, vv_geS, vv_lt, vv_le, vv_add, vv_addL, vv_addT, vv_sub, vv_neg, vv_abs, vv_int, vv_intb, vv_lenL, vv_lenT, vv_lenS, vv_ixL, vv_ixT, vv_b, vv_tup, vv_lst, vv_tupL, vv_tupT, vv_listN, vv_seqL, vv_seqT, vv_asc, vv_alpha, vv_lower, vv_strS, vv_moL, vv_moD, vv_tyI, vv_tyB, vv_tyS, vv_tyL, vv_tyT, vv_tyD, vv_tyN, vv_min, vv_max, vv_keys, vv_asI, vv_k1, vv_k2, vv_eq, vv_ne, vv_eqI, vv_ii, vv_ib, vv_bi, vv_bb, vv_tt, vv_ss, vv_dd, ixN, lstAt, dicAt, atI_0, atI_1, atI_2, outs, getMs, putM, putMs, ownB, isM, isS, okF, okI, sizeLine]
theorem seqIx {i : Int} {n : Nat} (h : 0 ≤ i) (h1 : i < n) : seqIndex? i n = some i.toNat := by
  unfold seqIndex?
  have : ¬ i < 0 := by omega
  simp [this]
  omega
/-- drawn without putting back -/
theorem some_ok {k n : Nat} {j : Int} {o : MO} {pool : List Dat} (hj : j = n) (h : PotOk k o) (hk : k + n < 1000000) (hn : n ≤ pool.length) (hp : pool.length < 1000000) :
    ∃ found o', F_law_some [o] [.lst pool, .int j] = some (.ok (.lst found) [o']) ∧ PotOk (k + n) o' ∧ found.length = n ∧ ∃ left, (found ++ left).Perm pool := by
  have loop := fun ds g => @forL_inv (setD 5) (mDrop (mAppend 4 (mPopAt 3 (mCall [0] (okF F_law_take) [] (mCons (mLenM 3) mNil)))))
    (fun r g => ∃ o left found x, g = [Sl.m true o, .d (.lst pool), .d (.int j), .m false (.lst left), .m false (.lst found), x] ∧ (x = .no ∨ ∃ d, x = .d d) ∧ PotOk (k + (n - r.length)) o ∧ found.length = n - r.length ∧ r.length ≤ n ∧ (found ++ left).Perm pool)
    (fun d r g ⟨o, left, found, x, hg, hx, ho, hf, hr, hp'⟩ => by
      rw [List.length_cons] at hr hf ho
      have hl := hp'.length_eq
      rw [List.length_append] at hl
      obtain ⟨q, o', e, q0, q1, p⟩ := take_ok (n := (left.length : Nat)) ho (by omega) (by omega) (by omega)
      have hq : q.toNat < left.length := by omega
      have a := seqIx q0 q1
      have b := List.getElem?_eq_getElem hq
      have z1 : -(2 ^ 63) ≤ q ∧ q < 2 ^ 63 := by omega
      have z2 : found.length < sizeLine := by unfold sizeLine; omega
      refine ⟨[Sl.m true o, .d (.lst pool), .d (.int j), .m false (.lst left), .m false (.lst found), .d d], [Sl.m true o', .d (.lst pool), .d (.int j), .m false (.lst (left.eraseIdx q.toNat)), .m false (.lst (found ++ [left[q.toNat]])), .d d], ?_, ?_, o', _, _, .d d, rfl, .inr ⟨d, rfl⟩, ?_, ?_, by omega, ?_⟩
      · subst hg
        rcases hx with rfl | ⟨d', rfl⟩ <;> simp [setD]
      · unfold sizeLine at z2
        simp at z1 z2
        simp [mPopAt, e, a, b, z1, z2, e_ret, e_lift, e_bnd, e_var, e_C, e_op, e_un, e_nil, e_cons, e_fn, e_test, e_notT, e_andT, e_orT, e_notV, e_andV, e_orV, e_if, e_tt, e_ff, e_chain, e_tup, e_lst, e_next, e_seq, e_nx, e_rt, e_drop, e_mret, e_retN, e_set, e_asg, e_par, e_par3, e_par2N, e_setD, e_setM, e_own, e_isi, e_tupT, e_nilT, e_consT, e_lstN, e_dic0, e_fnN, e_callN, e_fzN, e_seqO, e_itA, e_for, e_attr, e_raise, e_make, e_part, e_slice, e_ixM, e_setIx, e_append, e_popAt, e_lenM, e_fz, e_call, e_prop, e_getM, e_putM, e_getD, e_ixD, e_inD, e_methS0, e_fldSet, e_callO, e_callS, e_seqN, e_opN, vv_gt, vv_ge, vv_geS, vv_lt, vv_le, vv_add, vv_addL, vv_addT, vv_sub, vv_neg, vv_abs, vv_int, vv_intb, vv_lenL, vv_lenT, vv_lenS, vv_ixL, vv_ixT, vv_b, vv_tup, vv_lst, vv_tupL, vv_tupT, vv_listN, vv_seqL, vv_seqT, vv_asc, vv_alpha, vv_lower, vv_strS, vv_moL, vv_moD, vv_tyI, vv_tyB, vv_tyS, vv_tyL, vv_tyT, vv_tyD, vv_tyN, vv_min, vv_max, vv_keys, vv_asI, vv_k1, vv_k2, vv_eq, vv_ne, vv_eqI, vv_ii, vv_ib, vv_bi, vv_bb, vv_tt, vv_ss, vv_dd, ixN, lstAt, dicAt, atI_0, atI_1, atI_2, outs, getMs, putM, putMs, ownB, isM, isS, okF, okI, sizeLine]
      · exact p.mono (by omega)
      · rw [List.length_append, List.length_singleton]; omega
      · refine List.Perm.trans ?_ hp'
        rw [List.append_assoc]
        refine List.Perm.append_left _ ?_
        exact eraseIdx_perm hq) ds g
  obtain ⟨g', e, o', left, found, x, hg, hx, ho, hf, hr, hp'⟩ := loop (rgD 0 n) [Sl.m true o, .d (.lst pool), .d (.int j), .m false (.lst pool), .m false (.lst []), .no] ⟨o, pool, [], .no, rfl, .inl rfl, by simpa [rgD] using h, by simp [rgD], by simp [rgD], by simp⟩
  refine ⟨found, o', ?_, by simpa using ho, by simpa using hf, left, hp'⟩
  have q : rg1O [.int j] = some (rgD 0 n) := by rw [hj]; exact rg1O_nat (by omega)
  unfold F_law_some runF
  simp [m_law_some, q, e, hg, e_ret, e_lift, e_bnd, e_var, e_C, e_op, e_un, e_nil, e_cons, e_fn, e_test, e_notT, e_andT, e_orT, e_notV, e_andV, e_orV, e_if, e_tt, e_ff, e_chain, e_tup, e_lst, e_next, e_seq, e_nx, e_rt, e_drop, e_mret, e_retN, e_set, e_asg, e_par, e_par3, e_par2N, e_setD, e_setM, e_own, e_isi, e_tupT, e_nilT, e_consT, e_lstN, e_dic0, e_fnN, e_callN, e_fzN, e_seqO, e_itA, e_for, e_attr, e_raise, e_make, e_part, e_slice, e_ixM, e_setIx, e_append, e_popAt, e_lenM, e_fz, e_call, e_prop, e_getM, e_putM, e_getD, e_ixD, e_inD, e_methS0, e_fldSet, e_callO, e_callS, e_seqN, e_opN, vv_gt, vv_ge, vv_geS, vv_lt, vv_le, vv_add, vv_addL, vv_addT, vv_sub, vv_neg, vv_abs, vv_int, vv_intb, vv_lenL, vv_lenT, vv_lenS, vv_ixL, vv_ixT, vv_b, vv_tup, vv_lst, vv_tupL, vv_tupT, vv_listN, vv_seqL, vv_seqT, vv_asc, vv_alpha, vv_lower, vv_strS, vv_moL, vv_moD, vv_tyI, vv_tyB, vv_tyS, vv_tyL, vv_tyT, vv_tyD, vv_tyN, vv_min, vv_max, vv_keys, vv_asI, vv_k1, vv_k2, vv_eq, vv_ne, vv_eqI, vv_ii, vv_ib, vv_bi, vv_bb, vv_tt, vv_ss, vv_dd, ixN, lstAt, dicAt, atI_0, atI_1, atI_2, outs, getMs, putM, putMs, ownB, isM, isS, okF, okI, sizeLine]
end K04

set_option Elab.async false
set_option linter.all false
set_option maxRecDepth 100000
set_option maxHeartbeats 1000000
namespace K04
open PySem PySem.Spec PyProof.Rows L2 GX DL
/-! ### names, integers -/
structure NmOk (x : Str) : Prop where
  a : Txt.isascii x = true
  b : Txt.isalpha x = true
  c : Txt.islower x = true
  l : x.length ≤ 8
  w : ascT x = true
theorem is_name_ok {x : Str} (h : NmOk x) : F_is_name [] [.str x] = some (.ok (.bl true) []) := by
  have l1 : x.length ≤ 2 ^ 24 := Nat.le_trans h.l (by decide)
  have l2 : ¬ (8 : Int) < (x.length : Nat) := by have := h.l; omega
  unfold F_is_name runF
  simp [m_is_name, h.a, h.b, h.c, l1, l2, e_ret, e_lift, e_bnd, e_var, e_C, e_op, e_un, e_nil, e_cons, e_fn, e_test, e_notT, e_andT, e_orT, e_notV, e_andV, e_orV, e_if, e_tt, e_ff, e_chain, e_tup, e_lst, e_next, e_seq, e_nx, e_rt, e_drop, e_mret, e_retN, e_set, e_asg, e_par, e_par3, e_par2N, e_setD, e_setM, e_own, e_isi, e_tupT, e_nilT, e_consT, e_lstN, e_dic0, e_fnN, e_callN, e_fzN, e_seqO, e_itA, e_for, e_attr, e_raise, e_make, e_part, e_slice, e_ixM, e_setIx, e_append, e_popAt, e_lenM, e_fz, e_call, e_prop, e_getM, e_putM, e_getD, e_ixD, e_inD, e_methS0, e_fldSet, e_callO, e_callS, e_seqN, e_opN, vv_gt, vv_ge, vv_geS, vv_lt, vv_le, vv_add, vv_addL, vv_addT, vv_sub, vv_neg, vv_abs, vv_int, vv_intb, vv_lenL, vv_lenT, vv_lenS, vv_ixL, vv_ixT, vv_b, vv_tup, vv_lst, vv_tupL, vv_tupT, vv_listN, vv_seqL, vv_seqT, vv_asc, vv_alpha, vv_lower, vv_strS, vv_moL, vv_moD, vv_tyI, vv_tyB, vv_tyS, vv_tyL, vv_tyT, vv_tyD, vv_tyN, vv_min, vv_max, vv_keys, vv_asI, vv_k1, vv_k2, vv_eq, vv_ne, vv_eqI, vv_ii, vv_ib, vv_bi, vv_bb, vv_tt, vv_ss, vv_dd, ixN, lstAt, dicAt, atI_0, atI_1, atI_2, outs, getMs, putM, putMs, ownB, isM, isS, okF, okI, sizeLine]
theorem is_integer_ok (i : Int) : F_is_integer [] [.int i] = some (.ok (.bl true) []) := by
  unfold F_is_integer runF
  simp [m_is_integer, e_ret, e_lift, e_bnd, e_var, e_C, e_op, e_un, e_nil, e_cons, e_fn, e_test, e_notT, e_andT, e_orT, e_notV, e_andV, e_orV, e_if, e_tt, e_ff, e_chain, e_tup, e_lst, e_next, e_seq, e_nx, e_rt, e_drop, e_mret, e_retN, e_set, e_asg, e_par, e_par3, e_par2N, e_setD, e_setM, e_own, e_isi, e_tupT, e_nilT, e_consT, e_lstN, e_dic0, e_fnN, e_callN, e_fzN, e_seqO, e_itA, e_for, e_attr, e_raise, e_make, e_part, e_slice, e_ixM, e_setIx, e_append, e_popAt, e_lenM, e_fz, e_call, e_prop, e_getM, e_putM, e_getD, e_ixD, e_inD, e_methS0, e_fldSet, e_callO, e_callS, e_seqN, e_opN, vv_gt, vv_ge, vv_geS, vv_lt, vv_le, vv_add, vv_addL, vv_addT, vv_sub, vv_neg, vv_abs, vv_int, vv_intb, vv_lenL, vv_lenT, vv_lenS, vv_ixL, vv_ixT, vv_b, vv_tup, vv_lst, vv_tupL, vv_tupT, vv_listN, vv_seqL, vv_seqT, vv_asc, vv_alpha, vv_lower, vv_strS, vv_moL, vv_moD, vv_tyI, vv_tyB, vv_tyS, vv_tyL, vv_tyT, vv_tyD, vv_tyN, vv_min, vv_max, vv_keys, vv_asI, vv_k1, vv_k2, vv_eq, vv_ne, vv_eqI, vv_ii, vv_ib, vv_bi, vv_bb, vv_tt, vv_ss, vv_dd, ixN, lstAt, dicAt, atI_0, atI_1, atI_2, outs, getMs, putM, putMs, ownB, isM, isS, okF, okI, sizeLine]
theorem is_part_ok {p : Str × Int} (h : NmOk p.1) (hk : p.2 ≠ 0) : F_is_part [] [pD p] = some (.ok (.bl true) []) := by
  have e1 := is_name_ok h
  have e2 := is_integer_ok p.2
  unfold F_is_part runF pD
  simp [m_is_part, e1, e2, hk, e_ret, e_lift, e_bnd, e_var, e_C, e_op, e_un, e_nil, e_cons, e_fn, e_test, e_notT, e_andT, e_orT, e_notV, e_andV, e_orV, e_if, e_tt, e_ff, e_chain, e_tup, e_lst, e_next, e_seq, e_nx, e_rt, e_drop, e_mret, e_retN, e_set, e_asg, e_par, e_par3, e_par2N, e_setD, e_setM, e_own, e_isi, e_tupT, e_nilT, e_consT, e_lstN, e_dic0, e_fnN, e_callN, e_fzN, e_seqO, e_itA, e_for, e_attr, e_raise, e_make, e_part, e_slice, e_ixM, e_setIx, e_append, e_popAt, e_lenM, e_fz, e_call, e_prop, e_getM, e_putM, e_getD, e_ixD, e_inD, e_methS0, e_fldSet, e_callO, e_callS, e_seqN, e_opN, vv_gt, vv_ge, vv_geS, vv_lt, vv_le, vv_add, vv_addL, vv_addT, vv_sub, vv_neg, vv_abs, vv_int, vv_intb, vv_lenL, vv_lenT, vv_lenS, vv_ixL, vv_ixT, vv_b, vv_tup, vv_lst, vv_tupL, vv_tupT, vv_listN, vv_seqL, vv_seqT, vv_asc, vv_alpha, vv_lower, vv_strS, vv_moL, vv_moD, vv_tyI, vv_tyB, vv_tyS, vv_tyL, vv_tyT, vv_tyD, vv_tyN, vv_min, vv_max, vv_keys, vv_asI, vv_k1, vv_k2, vv_eq, vv_ne, vv_eqI, vv_ii, vv_ib, vv_bi, vv_bb, vv_tt, vv_ss, vv_dd, ixN, lstAt, dicAt, atI_0, atI_1, atI_2, outs, getMs, putM, putMs, ownB, isM, isS, okF, okI, sizeLine]
theorem strLt_of {a b : Str} (h : ltS a b) : strLt a b = true := by
  have h1 := h.1
  unfold leS at h1
  rw [leL_not, ltCps_eq] at h1
  unfold strLt
  have : ¬ b.cps.toList < a.cps.toList := by simpa using h1
  have n : a.cps.toList ≠ b.cps.toList := fun e => h.2 (by cases a; cases b; exact congrArg Str.mk (Array.toList_inj.mp e))
  rw [decide_eq_true_eq]
  exact Std.lt_of_le_of_ne (List.not_lt.mp this) n
theorem zip_up : ∀ {xs : List Str}, xs.Pairwise ltS → ∀ d ∈ List.zipWith (fun a b => Dat.tup false [a, b]) (xs.map Dat.str) ((xs.map Dat.str).drop 1), ∃ a b, d = .tup false [.str a, .str b] ∧ ltS a b
  | [], _, d, h => by cases h
  | [x], _, d, h => by cases h
  | x :: y :: r, p, d, h => by
    have h' : d ∈ Dat.tup false [.str x, .str y] :: List.zipWith (fun a b => Dat.tup false [a, b]) ((y :: r).map Dat.str) (((y :: r).map Dat.str).drop 1) := h
    rcases List.mem_cons.mp h' with rfl | h'
    · exact ⟨x, y, rfl, (List.pairwise_cons.mp p).1 y List.mem_cons_self⟩
    · exact zip_up (List.pairwise_cons.mp p).2 d h'
theorem is_ascending_ok {xs : List Str} (h : xs.Pairwise ltS) : F_is_ascending [] [.lst (xs.map Dat.str)] = some (.ok (.bl true) []) := by
  have loop := fun ds g => @forL_inv (tupT 2 (consT (setD 1) (consT (setD 2) nilT))) (mIf (mTest (mOp geF (mVar 1) (mVar 2))) (mRet (mC (.bl false))) mNext)
    (fun r g => ∃ x y, g = [Sl.d (.lst (xs.map Dat.str)), x, y] ∧ (x = .no ∨ ∃ d, x = .d d) ∧ (y = .no ∨ ∃ d, y = .d d) ∧ ∀ d ∈ r, ∃ a b, d = Dat.tup false [.str a, .str b] ∧ ltS a b)
    (fun d r g ⟨x, y, hg, hx, hy, hr⟩ => by
      obtain ⟨a, b, rfl, hab⟩ := hr d List.mem_cons_self
      have lt := strLt_of hab
      refine ⟨[.d (.lst (xs.map Dat.str)), .d (.str a), .d (.str b)], _, ?_, ?_, .d (.str a), .d (.str b), rfl, .inr ⟨_, rfl⟩, .inr ⟨_, rfl⟩, fun d hd => hr d (List.mem_cons_of_mem _ hd)⟩
      · subst hg
        rcases hx with rfl | ⟨d, rfl⟩ <;> rcases hy with rfl | ⟨d', rfl⟩ <;> simp [e_ret, e_lift, e_bnd, e_var, e_C, e_op, e_un, e_nil, e_cons, e_fn, e_test, e_notT, e_andT, e_orT, e_notV, e_andV, e_orV, e_if, e_tt, e_ff, e_chain, e_tup, e_lst, e_next, e_seq, e_nx, e_rt, e_drop, e_mret, e_retN, e_set, e_asg, e_par, e_par3, e_par2N, e_setD, e_setM, e_own, e_isi, e_tupT, e_nilT, e_consT, e_lstN, e_dic0, e_fnN, e_callN, e_fzN, e_seqO, e_itA, e_for, e_attr, e_raise, e_make, e_part, e_slice, e_ixM, e_setIx, e_append, e_popAt, e_lenM, e_fz, e_call, e_prop, e_getM, e_putM, e_getD, e_ixD, e_inD, e_methS0, e_fldSet, e_callO, e_callS, e_seqN, e_opN, vv_gt, vv_ge, vv_geS, vv_lt, vv_le, vv_add, vv_addL, vv_addT, vv_sub, vv_neg, vv_abs, vv_int, vv_intb, vv_lenL, vv_lenT, vv_lenS, vv_ixL, vv_ixT, vv_b, vv_tup, vv_lst, vv_tupL, vv_tupT, vv_listN, vv_seqL, vv_seqT, vv_asc, vv_alpha, vv_lower, vv_strS, vv_moL, vv_moD, vv_tyI, vv_tyB, vv_tyS, vv_tyL, vv_tyT, vv_tyD, vv_tyN, vv_min, vv_max, vv_keys, vv_asI, vv_k1, vv_k2, vv_eq, vv_ne, vv_eqI, vv_ii, vv_ib, vv_bi, vv_bb, vv_tt, vv_ss, vv_dd, ixN, lstAt, dicAt, atI_0, atI_1, atI_2, outs, getMs, putM, putMs, ownB, isM, isS, okF, okI, sizeLine]
      · simp [lt, e_ret, e_lift, e_bnd, e_var, e_C, e_op, e_un, e_nil, e_cons, e_fn, e_test, e_notT, e_andT, e_orT, e_notV, e_andV, e_orV, e_if, e_tt, e_ff, e_chain, e_tup, e_lst, e_next, e_seq, e_nx, e_rt, e_drop, e_mret, e_retN, e_set, e_asg, e_par, e_par3, e_par2N, e_setD, e_setM, e_own, e_isi, e_tupT, e_nilT, e_consT, e_lstN, e_dic0, e_fnN, e_callN, e_fzN, e_seqO, e_itA, e_for, e_attr, e_raise, e_make, e_part, e_slice, e_ixM, e_setIx, e_append, e_popAt, e_lenM, e_fz, e_call, e_prop, e_getM, e_putM, e_getD, e_ixD, e_inD, e_methS0, e_fldSet, e_callO, e_callS, e_seqN, e_opN, vv_gt, vv_ge, vv_geS, vv_lt, vv_le, vv_add, vv_addL, vv_addT, vv_sub, vv_neg, vv_abs, vv_int, vv_intb, vv_lenL, vv_lenT, vv_lenS, vv_ixL, vv_ixT, vv_b, vv_tup, vv_lst, vv_tupL, vv_tupT, vv_listN, vv_seqL, vv_seqT, vv_asc, vv_alpha, vv_lower, vv_strS, vv_moL, vv_moD, vv_tyI, vv_tyB, vv_tyS, vv_tyL, vv_tyT, vv_tyD, vv_tyN, vv_min, vv_max, vv_keys, vv_asI, vv_k1, vv_k2, vv_eq, vv_ne, vv_eqI, vv_ii, vv_ib, vv_bi, vv_bb, vv_tt, vv_ss, vv_dd, ixN, lstAt, dicAt, atI_0, atI_1, atI_2, outs, getMs, putM, putMs, ownB, isM, isS, okF, okI, sizeLine]) ds g
  obtain ⟨g', e, x, y, hg, _⟩ := loop (List.zipWith (fun a b => Dat.tup false [a, b]) (xs.map Dat.str) ((xs.map Dat.str).drop 1)) [Sl.d (.lst (xs.map Dat.str)), .no, .no] ⟨_, _, rfl, .inl rfl, .inl rfl, zip_up h⟩
  have z : zipO [.lst (xs.map Dat.str), .lst ((xs.map Dat.str).drop 1)] = some (List.zipWith (fun a b => Dat.tup false [a, b]) (xs.map Dat.str) ((xs.map Dat.str).drop 1)) := rfl
  have sl : sliceF (.lst (xs.map Dat.str)) (some 1) none = some (.lst ((xs.map Dat.str).drop 1)) := by
    show some (Dat.lst (cutS' _ _ _)) = _
    rw [cut1]
  generalize hz : List.zipWith (fun a b => Dat.tup false [a, b]) (xs.map Dat.str) ((xs.map Dat.str).drop 1) = zs at z e
  generalize hd : (xs.map Dat.str).drop 1 = ys at z sl
  unfold F_is_ascending runF
  simp [m_is_ascending, z, sl, e, hg, e_ret, e_lift, e_bnd, e_var, e_C, e_op, e_un, e_nil, e_cons, e_fn, e_test, e_notT, e_andT, e_orT, e_notV, e_andV, e_orV, e_if, e_tt, e_ff, e_chain, e_tup, e_lst, e_next, e_seq, e_nx, e_rt, e_drop, e_mret, e_retN, e_set, e_asg, e_par, e_par3, e_par2N, e_setD, e_setM, e_own, e_isi, e_tupT, e_nilT, e_consT, e_lstN, e_dic0, e_fnN, e_callN, e_fzN, e_seqO, e_itA, e_for, e_attr, e_raise, e_make, e_part, e_slice, e_ixM, e_setIx, e_append, e_popAt, e_lenM, e_fz, e_call, e_prop, e_getM, e_putM, e_getD, e_ixD, e_inD, e_methS0, e_fldSet, e_callO, e_callS, e_seqN, e_opN, vv_gt, vv_ge, vv_geS, vv_lt, vv_le, vv_add, vv_addL, vv_addT, vv_sub, vv_neg, vv_abs, vv_int, vv_intb, vv_lenL, vv_lenT, vv_lenS, vv_ixL, vv_ixT, vv_b, vv_tup, vv_lst, vv_tupL, vv_tupT, vv_listN, vv_seqL, vv_seqT, vv_asc, vv_alpha, vv_lower, vv_strS, vv_moL, vv_moD, vv_tyI, vv_tyB, vv_tyS, vv_tyL, vv_tyT, vv_tyD, vv_tyN, vv_min, vv_max, vv_keys, vv_asI, vv_k1, vv_k2, vv_eq, vv_ne, vv_eqI, vv_ii, vv_ib, vv_bi, vv_bb, vv_tt, vv_ss, vv_dd, ixN, lstAt, dicAt, atI_0, atI_1, atI_2, outs, getMs, putM, putMs, ownB, isM, isS, okF, okI, sizeLine]
/-! ### Sums -/
structure Good (ps : Prs) : Prop where
  n : Nrm ps
  nm : ∀ x ∈ nms ps, NmOk x
  l : ps.length < 64
def SumD (ps : Prs) (k : Int) : Dat := .obj "Sum" [("_parts", .tup true (psD ps)), ("_number", .int k), ("_counts", .dic (dD ps))]
theorem are_parts_ok {ps : Prs} (h : Good ps) : F_are_parts [] [.tup true (psD ps)] = some (.ok (.bl true) []) := by
  have loop := fun ds g => @forL_inv (setD 1) (mIf (mNotT (mTest (mCall [] (okF F_is_part) [] (mCons (mVar 1) mNil)))) (mRet (mC (.bl false))) mNext)
    (fun r g => ∃ x, g = [Sl.d (.tup true (psD ps)), x] ∧ (x = .no ∨ ∃ d, x = .d d) ∧ ∀ d ∈ r, ∃ p, d = pD p ∧ p ∈ ps)
    (fun d r g ⟨x, hg, hx, hr⟩ => by
      obtain ⟨p, rfl, hp⟩ := hr d List.mem_cons_self
      have e1 := is_part_ok (h.nm _ (List.mem_map_of_mem hp)) (h.n.nz p hp)
      refine ⟨[.d (.tup true (psD ps)), .d (pD p)], _, ?_, ?_, .d (pD p), rfl, .inr ⟨_, rfl⟩, fun d hd => hr d (List.mem_cons_of_mem _ hd)⟩
      · subst hg
        rcases hx with rfl | ⟨d, rfl⟩ <;> simp [e_ret, e_lift, e_bnd, e_var, e_C, e_op, e_un, e_nil, e_cons, e_fn, e_test, e_notT, e_andT, e_orT, e_notV, e_andV, e_orV, e_if, e_tt, e_ff, e_chain, e_tup, e_lst, e_next, e_seq, e_nx, e_rt, e_drop, e_mret, e_retN, e_set, e_asg, e_par, e_par3, e_par2N, e_setD, e_setM, e_own, e_isi, e_tupT, e_nilT, e_consT, e_lstN, e_dic0, e_fnN, e_callN, e_fzN, e_seqO, e_itA, e_for, e_attr, e_raise, e_make, e_part, e_slice, e_ixM, e_setIx, e_append, e_popAt, e_lenM, e_fz, e_call, e_prop, e_getM, e_putM, e_getD, e_ixD, e_inD, e_methS0, e_fldSet, e_callO, e_callS, e_seqN, e_opN, vv_gt, vv_ge, vv_geS, vv_lt, vv_le, vv_add, vv_addL, vv_addT, vv_sub, vv_neg, vv_abs, vv_int, vv_intb, vv_lenL, vv_lenT, vv_lenS, vv_ixL, vv_ixT, vv_b, vv_tup, vv_lst, vv_tupL, vv_tupT, vv_listN, vv_seqL, vv_seqT, vv_asc, vv_alpha, vv_lower, vv_strS, vv_moL, vv_moD, vv_tyI, vv_tyB, vv_tyS, vv_tyL, vv_tyT, vv_tyD, vv_tyN, vv_min, vv_max, vv_keys, vv_asI, vv_k1, vv_k2, vv_eq, vv_ne, vv_eqI, vv_ii, vv_ib, vv_bi, vv_bb, vv_tt, vv_ss, vv_dd, ixN, lstAt, dicAt, atI_0, atI_1, atI_2, outs, getMs, putM, putMs, ownB, isM, isS, okF, okI, sizeLine]
      · simp [e1, e_ret, e_lift, e_bnd, e_var, e_C, e_op, e_un, e_nil, e_cons, e_fn, e_test, e_notT, e_andT, e_orT, e_notV, e_andV, e_orV, e_if, e_tt, e_ff, e_chain, e_tup, e_lst, e_next, e_seq, e_nx, e_rt, e_drop, e_mret, e_retN, e_set, e_asg, e_par, e_par3, e_par2N, e_setD, e_setM, e_own, e_isi, e_tupT, e_nilT, e_consT, e_lstN, e_dic0, e_fnN, e_callN, e_fzN, e_seqO, e_itA, e_for, e_attr, e_raise, e_make, e_part, e_slice, e_ixM, e_setIx, e_append, e_popAt, e_lenM, e_fz, e_call, e_prop, e_getM, e_putM, e_getD, e_ixD, e_inD, e_methS0, e_fldSet, e_callO, e_callS, e_seqN, e_opN, vv_gt, vv_ge, vv_geS, vv_lt, vv_le, vv_add, vv_addL, vv_addT, vv_sub, vv_neg, vv_abs, vv_int, vv_intb, vv_lenL, vv_lenT, vv_lenS, vv_ixL, vv_ixT, vv_b, vv_tup, vv_lst, vv_tupL, vv_tupT, vv_listN, vv_seqL, vv_seqT, vv_asc, vv_alpha, vv_lower, vv_strS, vv_moL, vv_moD, vv_tyI, vv_tyB, vv_tyS, vv_tyL, vv_tyT, vv_tyD, vv_tyN, vv_min, vv_max, vv_keys, vv_asI, vv_k1, vv_k2, vv_eq, vv_ne, vv_eqI, vv_ii, vv_ib, vv_bi, vv_bb, vv_tt, vv_ss, vv_dd, ixN, lstAt, dicAt, atI_0, atI_1, atI_2, outs, getMs, putM, putMs, ownB, isM, isS, okF, okI, sizeLine]) ds g
  obtain ⟨g', e, x, hg, hx, _⟩ := loop (psD ps) [Sl.d (.tup true (psD ps)), .no] ⟨_, rfl, .inl rfl, fun d hd => by
    obtain ⟨p, hp, rfl⟩ := List.mem_map.mp hd
    exact ⟨p, rfl, hp⟩⟩
  have e2 := is_ascending_ok h.n.up
  have e3 : (psD ps).map (fun d => match d with | .tup _ [x, _] => x | _ => .non) = (nms ps).map Dat.str := by
    unfold psD nms
    rw [List.map_map, List.map_map]
    rfl
  unfold F_are_parts runF
  simp only [m_are_parts, List.map_cons, List.map_nil, List.replicate, List.length_cons, List.length_nil, List.append_nil, List.nil_append, List.cons_append]
  simp [e, hg, e_ret, e_lift, e_bnd, e_var, e_C, e_op, e_un, e_nil, e_cons, e_fn, e_test, e_notT, e_andT, e_orT, e_notV, e_andV, e_orV, e_if, e_tt, e_ff, e_chain, e_tup, e_lst, e_next, e_seq, e_nx, e_rt, e_drop, e_mret, e_retN, e_set, e_asg, e_par, e_par3, e_par2N, e_setD, e_setM, e_own, e_isi, e_tupT, e_nilT, e_consT, e_lstN, e_dic0, e_fnN, e_callN, e_fzN, e_seqO, e_itA, e_for, e_attr, e_raise, e_make, e_part, e_slice, e_ixM, e_setIx, e_append, e_popAt, e_lenM, e_fz, e_call, e_prop, e_getM, e_putM, e_getD, e_ixD, e_inD, e_methS0, e_fldSet, e_callO, e_callS, e_seqN, e_opN, vv_gt, vv_ge, vv_geS, vv_lt, vv_le, vv_add, vv_addL, vv_addT, vv_sub, vv_neg, vv_abs, vv_int, vv_intb, vv_lenL, vv_lenT, vv_lenS, vv_ixL, vv_ixT, vv_b, vv_tup, vv_lst, vv_tupL, vv_tupT, vv_listN, vv_seqL, vv_seqT, vv_asc, vv_alpha, vv_lower, vv_strS, vv_moL, vv_moD, vv_tyI, vv_tyB, vv_tyS, vv_tyL, vv_tyT, vv_tyD, vv_tyN, vv_min, vv_max, vv_keys, vv_asI, vv_k1, vv_k2, vv_eq, vv_ne, vv_eqI, vv_ii, vv_ib, vv_bi, vv_bb, vv_tt, vv_ss, vv_dd, ixN, lstAt, dicAt, atI_0, atI_1, atI_2, outs, getMs, putM, putMs, ownB, isM, isS, okF, okI, sizeLine]
  rw [mLc_map (g' := [Sl.d (.tup true (psD ps)), x]) (ds := psD ps) (fun d => match d with | .tup _ [x, _] => x | _ => .non) ?hi ?hn ?h ?hl]
  case hi => simp [e_ret, e_lift, e_bnd, e_var, e_C, e_op, e_un, e_nil, e_cons, e_fn, e_test, e_notT, e_andT, e_orT, e_notV, e_andV, e_orV, e_if, e_tt, e_ff, e_chain, e_tup, e_lst, e_next, e_seq, e_nx, e_rt, e_drop, e_mret, e_retN, e_set, e_asg, e_par, e_par3, e_par2N, e_setD, e_setM, e_own, e_isi, e_tupT, e_nilT, e_consT, e_lstN, e_dic0, e_fnN, e_callN, e_fzN, e_seqO, e_itA, e_for, e_attr, e_raise, e_make, e_part, e_slice, e_ixM, e_setIx, e_append, e_popAt, e_lenM, e_fz, e_call, e_prop, e_getM, e_putM, e_getD, e_ixD, e_inD, e_methS0, e_fldSet, e_callO, e_callS, e_seqN, e_opN, vv_gt, vv_ge, vv_geS, vv_lt, vv_le, vv_add, vv_addL, vv_addT, vv_sub, vv_neg, vv_abs, vv_int, vv_intb, vv_lenL, vv_lenT, vv_lenS, vv_ixL, vv_ixT, vv_b, vv_tup, vv_lst, vv_tupL, vv_tupT, vv_listN, vv_seqL, vv_seqT, vv_asc, vv_alpha, vv_lower, vv_strS, vv_moL, vv_moD, vv_tyI, vv_tyB, vv_tyS, vv_tyL, vv_tyT, vv_tyD, vv_tyN, vv_min, vv_max, vv_keys, vv_asI, vv_k1, vv_k2, vv_eq, vv_ne, vv_eqI, vv_ii, vv_ib, vv_bi, vv_bb, vv_tt, vv_ss, vv_dd, ixN, lstAt, dicAt, atI_0, atI_1, atI_2, outs, getMs, putM, putMs, ownB, isM, isS, okF, okI, sizeLine]
  case hn => rcases hx with rfl | ⟨d, rfl⟩ <;> rfl
  case h =>
    intro d hd
    obtain ⟨p, hp, rfl⟩ := List.mem_map.mp hd
    refine ⟨[.d (.tup true (psD ps)), .d (pD p)], ?_, ?_, ?_, ?_⟩
    · rcases hx with rfl | ⟨d, rfl⟩ <;> simp [wipeG, e_ret, e_lift, e_bnd, e_var, e_C, e_op, e_un, e_nil, e_cons, e_fn, e_test, e_notT, e_andT, e_orT, e_notV, e_andV, e_orV, e_if, e_tt, e_ff, e_chain, e_tup, e_lst, e_next, e_seq, e_nx, e_rt, e_drop, e_mret, e_retN, e_set, e_asg, e_par, e_par3, e_par2N, e_setD, e_setM, e_own, e_isi, e_tupT, e_nilT, e_consT, e_lstN, e_dic0, e_fnN, e_callN, e_fzN, e_seqO, e_itA, e_for, e_attr, e_raise, e_make, e_part, e_slice, e_ixM, e_setIx, e_append, e_popAt, e_lenM, e_fz, e_call, e_prop, e_getM, e_putM, e_getD, e_ixD, e_inD, e_methS0, e_fldSet, e_callO, e_callS, e_seqN, e_opN, vv_gt, vv_ge, vv_geS, vv_lt, vv_le, vv_add, vv_addL, vv_addT, vv_sub, vv_neg, vv_abs, vv_int, vv_intb, vv_lenL, vv_lenT, vv_lenS, vv_ixL, vv_ixT, vv_b, vv_tup, vv_lst, vv_tupL, vv_tupT, vv_listN, vv_seqL, vv_seqT, vv_asc, vv_alpha, vv_lower, vv_strS, vv_moL, vv_moD, vv_tyI, vv_tyB, vv_tyS, vv_tyL, vv_tyT, vv_tyD, vv_tyN, vv_min, vv_max, vv_keys, vv_asI, vv_k1, vv_k2, vv_eq, vv_ne, vv_eqI, vv_ii, vv_ib, vv_bi, vv_bb, vv_tt, vv_ss, vv_dd, ixN, lstAt, dicAt, atI_0, atI_1, atI_2, outs, getMs, putM, putMs, ownB, isM, isS, okF, okI, sizeLine]
    · rcases hx with rfl | ⟨d, rfl⟩ <;> simp [wipeG, e_ret, e_lift, e_bnd, e_var, e_C, e_op, e_un, e_nil, e_cons, e_fn, e_test, e_notT, e_andT, e_orT, e_notV, e_andV, e_orV, e_if, e_tt, e_ff, e_chain, e_tup, e_lst, e_next, e_seq, e_nx, e_rt, e_drop, e_mret, e_retN, e_set, e_asg, e_par, e_par3, e_par2N, e_setD, e_setM, e_own, e_isi, e_tupT, e_nilT, e_consT, e_lstN, e_dic0, e_fnN, e_callN, e_fzN, e_seqO, e_itA, e_for, e_attr, e_raise, e_make, e_part, e_slice, e_ixM, e_setIx, e_append, e_popAt, e_lenM, e_fz, e_call, e_prop, e_getM, e_putM, e_getD, e_ixD, e_inD, e_methS0, e_fldSet, e_callO, e_callS, e_seqN, e_opN, vv_gt, vv_ge, vv_geS, vv_lt, vv_le, vv_add, vv_addL, vv_addT, vv_sub, vv_neg, vv_abs, vv_int, vv_intb, vv_lenL, vv_lenT, vv_lenS, vv_ixL, vv_ixT, vv_b, vv_tup, vv_lst, vv_tupL, vv_tupT, vv_listN, vv_seqL, vv_seqT, vv_asc, vv_alpha, vv_lower, vv_strS, vv_moL, vv_moD, vv_tyI, vv_tyB, vv_tyS, vv_tyL, vv_tyT, vv_tyD, vv_tyN, vv_min, vv_max, vv_keys, vv_asI, vv_k1, vv_k2, vv_eq, vv_ne, vv_eqI, vv_ii, vv_ib, vv_bi, vv_bb, vv_tt, vv_ss, vv_dd, ixN, lstAt, dicAt, atI_0, atI_1, atI_2, outs, getMs, putM, putMs, ownB, isM, isS, okF, okI, sizeLine]
    · simp [e_ret, e_lift, e_bnd, e_var, e_C, e_op, e_un, e_nil, e_cons, e_fn, e_test, e_notT, e_andT, e_orT, e_notV, e_andV, e_orV, e_if, e_tt, e_ff, e_chain, e_tup, e_lst, e_next, e_seq, e_nx, e_rt, e_drop, e_mret, e_retN, e_set, e_asg, e_par, e_par3, e_par2N, e_setD, e_setM, e_own, e_isi, e_tupT, e_nilT, e_consT, e_lstN, e_dic0, e_fnN, e_callN, e_fzN, e_seqO, e_itA, e_for, e_attr, e_raise, e_make, e_part, e_slice, e_ixM, e_setIx, e_append, e_popAt, e_lenM, e_fz, e_call, e_prop, e_getM, e_putM, e_getD, e_ixD, e_inD, e_methS0, e_fldSet, e_callO, e_callS, e_seqN, e_opN, vv_gt, vv_ge, vv_geS, vv_lt, vv_le, vv_add, vv_addL, vv_addT, vv_sub, vv_neg, vv_abs, vv_int, vv_intb, vv_lenL, vv_lenT, vv_lenS, vv_ixL, vv_ixT, vv_b, vv_tup, vv_lst, vv_tupL, vv_tupT, vv_listN, vv_seqL, vv_seqT, vv_asc, vv_alpha, vv_lower, vv_strS, vv_moL, vv_moD, vv_tyI, vv_tyB, vv_tyS, vv_tyL, vv_tyT, vv_tyD, vv_tyN, vv_min, vv_max, vv_keys, vv_asI, vv_k1, vv_k2, vv_eq, vv_ne, vv_eqI, vv_ii, vv_ib, vv_bi, vv_bb, vv_tt, vv_ss, vv_dd, ixN, lstAt, dicAt, atI_0, atI_1, atI_2, outs, getMs, putM, putMs, ownB, isM, isS, okF, okI, sizeLine]
    · simp [pD, e_ret, e_lift, e_bnd, e_var, e_C, e_op, e_un, e_nil, e_cons, e_fn, e_test, e_notT, e_andT, e_orT, e_notV, e_andV, e_orV, e_if, e_tt, e_ff, e_chain, e_tup, e_lst, e_next, e_seq, e_nx, e_rt, e_drop, e_mret, e_retN, e_set, e_asg, e_par, e_par3, e_par2N, e_setD, e_setM, e_own, e_isi, e_tupT, e_nilT, e_consT, e_lstN, e_dic0, e_fnN, e_callN, e_fzN, e_seqO, e_itA, e_for, e_attr, e_raise, e_make, e_part, e_slice, e_ixM, e_setIx, e_append, e_popAt, e_lenM, e_fz, e_call, e_prop, e_getM, e_putM, e_getD, e_ixD, e_inD, e_methS0, e_fldSet, e_callO, e_callS, e_seqN, e_opN, vv_gt, vv_ge, vv_geS, vv_lt, vv_le, vv_add, vv_addL, vv_addT, vv_sub, vv_neg, vv_abs, vv_int, vv_intb, vv_lenL, vv_lenT, vv_lenS, vv_ixL, vv_ixT, vv_b, vv_tup, vv_lst, vv_tupL, vv_tupT, vv_listN, vv_seqL, vv_seqT, vv_asc, vv_alpha, vv_lower, vv_strS, vv_moL, vv_moD, vv_tyI, vv_tyB, vv_tyS, vv_tyL, vv_tyT, vv_tyD, vv_tyN, vv_min, vv_max, vv_keys, vv_asI, vv_k1, vv_k2, vv_eq, vv_ne, vv_eqI, vv_ii, vv_ib, vv_bi, vv_bb, vv_tt, vv_ss, vv_dd, ixN, lstAt, dicAt, atI_0, atI_1, atI_2, outs, getMs, putM, putMs, ownB, isM, isS, okF, okI, sizeLine]
  case hl =>
    have := h.l
    simp [psD, sizeLine]
    omega
  rw [e3]
  rcases hx with rfl | ⟨d, rfl⟩ <;> simp [e2, wipeG, backG, e_ret, e_lift, e_bnd, e_var, e_C, e_op, e_un, e_nil, e_cons, e_fn, e_test, e_notT, e_andT, e_orT, e_notV, e_andV, e_orV, e_if, e_tt, e_ff, e_chain, e_tup, e_lst, e_next, e_seq, e_nx, e_rt, e_drop, e_mret, e_retN, e_set, e_asg, e_par, e_par3, e_par2N, e_setD, e_setM, e_own, e_isi, e_tupT, e_nilT, e_consT, e_lstN, e_dic0, e_fnN, e_callN, e_fzN, e_seqO, e_itA, e_for, e_attr, e_raise, e_make, e_part, e_slice, e_ixM, e_setIx, e_append, e_popAt, e_lenM, e_fz, e_call, e_prop, e_getM, e_putM, e_getD, e_ixD, e_inD, e_methS0, e_fldSet, e_callO, e_callS, e_seqN, e_opN, vv_gt, vv_ge, vv_geS, vv_lt, vv_le, vv_add, vv_addL, vv_addT, vv_sub, vv_neg, vv_abs, vv_int, vv_intb, vv_lenL, vv_lenT, vv_lenS, vv_ixL, vv_ixT, vv_b, vv_tup, vv_lst, vv_tupL, vv_tupT, vv_listN, vv_seqL, vv_seqT, vv_asc, vv_alpha, vv_lower, vv_strS, vv_moL, vv_moD, vv_tyI, vv_tyB, vv_tyS, vv_tyL, vv_tyT, vv_tyD, vv_tyN, vv_min, vv_max, vv_keys, vv_asI, vv_k1, vv_k2, vv_eq, vv_ne, vv_eqI, vv_ii, vv_ib, vv_bi, vv_bb, vv_tt, vv_ss, vv_dd, ixN, lstAt, dicAt, atI_0, atI_1, atI_2, outs, getMs, putM, putMs, ownB, isM, isS, okF, okI, sizeLine]
theorem init_ok {ps : Prs} {k : Int} (h : Good ps) : F_init [.tup true (psD ps), .int k] = some (SumD ps k, none) := by
  have e1 := are_parts_ok h
  have e2 := is_integer_ok k
  have e3 := dictO_T h.n.nodup
  have l1 : ("_number" == ("_parts" : Str)) = false := by decide
  have l2 : ("_counts" == ("_parts" : Str)) = false := by decide
  have l3 : ("_counts" == ("_number" : Str)) = false := by decide
  unfold F_init runI SumD
  simp [m_init, e1, e2, e3, l1, l2, l3, List.lookup, e_ret, e_lift, e_bnd, e_var, e_C, e_op, e_un, e_nil, e_cons, e_fn, e_test, e_notT, e_andT, e_orT, e_notV, e_andV, e_orV, e_if, e_tt, e_ff, e_chain, e_tup, e_lst, e_next, e_seq, e_nx, e_rt, e_drop, e_mret, e_retN, e_set, e_asg, e_par, e_par3, e_par2N, e_setD, e_setM, e_own, e_isi, e_tupT, e_nilT, e_consT, e_lstN, e_dic0, e_fnN, e_callN, e_fzN, e_seqO, e_itA, e_for, e_attr, e_raise, e_make, e_part, e_slice, e_ixM, e_setIx, e_append, e_popAt, e_lenM, e_fz, e_call, e_prop, e_getM, e_putM, e_getD, e_ixD, e_inD, e_methS0, e_fldSet, e_callO, e_callS, e_seqN, e_opN, vv_gt, vv_ge, vv_geS, vv_lt, vv_le, vv_add, vv_addL, vv_addT, vv_sub, vv_neg, vv_abs, vv_int, vv_intb, vv_lenL, vv_lenT, vv_lenS, vv_ixL, vv_ixT, vv_b, vv_tup, vv_lst, vv_tupL, vv_tupT, vv_listN, vv_seqL, vv_seqT, vv_asc, vv_alpha, vv_lower, vv_strS, vv_moL, vv_moD, vv_tyI, vv_tyB, vv_tyS, vv_tyL, vv_tyT, vv_tyD, vv_tyN, vv_min, vv_max, vv_keys, vv_asI, vv_k1, vv_k2, vv_eq, vv_ne, vv_eqI, vv_ii, vv_ib, vv_bi, vv_bb, vv_tt, vv_ss, vv_dd, ixN, lstAt, dicAt, atI_0, atI_1, atI_2, outs, getMs, putM, putMs, ownB, isM, isS, okF, okI, sizeLine]
theorem NF_good {ps : Prs} (nm : ∀ x ∈ nms ps, NmOk x) (l : ps.length < 64) : Good (NF ps) := ⟨nrm_NF ps, fun x h => nm x (NF_nms h), Nat.lt_of_le_of_lt (NF_len ps) l⟩
theorem counted_ok {ps : Prs} {k : Int} (n : (nms ps).Nodup) (nm : ∀ x ∈ nms ps, NmOk x) (l : ps.length < 64) : F_counted [] [.dic (dD ps), .int k] = some (.ok (SumD (NF ps) k) []) := by
  have ei := init_ok (k := k) (NF_good nm l)
  have ln : (nms ps).length = ps.length := by simp [nms]
  generalize hxs : ((nms ps).filter fun x => cnt ps x != 0) = xs
  have lx : xs.length < 64 := by rw [← hxs]; exact Nat.lt_of_le_of_lt (List.length_filter_le _ _) (by omega)
  have es := sortSF_ok lx
  have er := sort_cnt n
  rw [hxs] at er
  unfold F_counted runF
  simp only [m_counted, List.map_cons, List.map_nil, List.replicate, List.length_cons, List.length_nil, List.append_nil, List.nil_append, List.cons_append]
  simp [e_ret, e_lift, e_bnd, e_var, e_C, e_op, e_un, e_nil, e_cons, e_fn, e_test, e_notT, e_andT, e_orT, e_notV, e_andV, e_orV, e_if, e_tt, e_ff, e_chain, e_tup, e_lst, e_next, e_seq, e_nx, e_rt, e_drop, e_mret, e_retN, e_set, e_asg, e_par, e_par3, e_par2N, e_setD, e_setM, e_own, e_isi, e_tupT, e_nilT, e_consT, e_lstN, e_dic0, e_fnN, e_callN, e_fzN, e_seqO, e_itA, e_for, e_attr, e_raise, e_make, e_part, e_slice, e_ixM, e_setIx, e_append, e_popAt, e_lenM, e_fz, e_call, e_prop, e_getM, e_putM, e_getD, e_ixD, e_inD, e_methS0, e_fldSet, e_callO, e_callS, e_seqN, e_opN, vv_gt, vv_ge, vv_geS, vv_lt, vv_le, vv_add, vv_addL, vv_addT, vv_sub, vv_neg, vv_abs, vv_int, vv_intb, vv_lenL, vv_lenT, vv_lenS, vv_ixL, vv_ixT, vv_b, vv_tup, vv_lst, vv_tupL, vv_tupT, vv_listN, vv_seqL, vv_seqT, vv_asc, vv_alpha, vv_lower, vv_strS, vv_moL, vv_moD, vv_tyI, vv_tyB, vv_tyS, vv_tyL, vv_tyT, vv_tyD, vv_tyN, vv_min, vv_max, vv_keys, vv_asI, vv_k1, vv_k2, vv_eq, vv_ne, vv_eqI, vv_ii, vv_ib, vv_bi, vv_bb, vv_tt, vv_ss, vv_dd, ixN, lstAt, dicAt, atI_0, atI_1, atI_2, outs, getMs, putM, putMs, ownB, isM, isS, okF, okI, sizeLine]
  rw [mLc_fm (g' := [.d (.dic (dD ps)), .d (.int k), .no, .no]) (ds := (nms ps).map Dat.str) (fun d => match d with | .str x => if (cnt ps x != 0) = true then some (.str x) else none | _ => none) ?hi ?hn ?h ?hl]
  case hi => simp only [e_ret, e_lift, e_bnd, e_var, e_C, e_op, e_un, e_nil, e_cons, e_fn, e_test, e_notT, e_andT, e_orT, e_notV, e_andV, e_orV, e_if, e_tt, e_ff, e_chain, e_tup, e_lst, e_next, e_seq, e_nx, e_rt, e_drop, e_mret, e_retN, e_set, e_asg, e_par, e_par3, e_par2N, e_setD, e_setM, e_own, e_isi, e_tupT, e_nilT, e_consT, e_lstN, e_dic0, e_fnN, e_callN, e_fzN, e_seqO, e_itA, e_for, e_attr, e_raise, e_make, e_part, e_slice, e_ixM, e_setIx, e_append, e_popAt, e_lenM, e_fz, e_call, e_prop, e_getM, e_putM, e_getD, e_ixD, e_inD, e_methS0, e_fldSet, e_callO, e_callS, e_seqN, e_opN, vv_gt, vv_ge, vv_geS, vv_lt, vv_le, vv_add, vv_addL, vv_addT, vv_sub, vv_neg, vv_abs, vv_int, vv_intb, vv_lenL, vv_lenT, vv_lenS, vv_ixL, vv_ixT, vv_b, vv_tup, vv_lst, vv_tupL, vv_tupT, vv_listN, vv_seqL, vv_seqT, vv_asc, vv_alpha, vv_lower, vv_strS, vv_moL, vv_moD, vv_tyI, vv_tyB, vv_tyS, vv_tyL, vv_tyT, vv_tyD, vv_tyN, vv_min, vv_max, vv_keys, vv_asI, vv_k1, vv_k2, vv_eq, vv_ne, vv_eqI, vv_ii, vv_ib, vv_bi, vv_bb, vv_tt, vv_ss, vv_dd, ixN, lstAt, dicAt, atI_0, atI_1, atI_2, outs, getMs, putM, putMs, ownB, isM, isS, okF, okI, sizeLine]; simp [keys_dD]
  case hn => rfl
  case h =>
    intro d hd
    obtain ⟨x, hx, rfl⟩ := List.mem_map.mp hd
    refine ⟨[.d (.dic (dD ps)), .d (.int k), .no, .d (.str x)], ?_, ?_, ?_⟩
    · simp [wipeG, e_ret, e_lift, e_bnd, e_var, e_C, e_op, e_un, e_nil, e_cons, e_fn, e_test, e_notT, e_andT, e_orT, e_notV, e_andV, e_orV, e_if, e_tt, e_ff, e_chain, e_tup, e_lst, e_next, e_seq, e_nx, e_rt, e_drop, e_mret, e_retN, e_set, e_asg, e_par, e_par3, e_par2N, e_setD, e_setM, e_own, e_isi, e_tupT, e_nilT, e_consT, e_lstN, e_dic0, e_fnN, e_callN, e_fzN, e_seqO, e_itA, e_for, e_attr, e_raise, e_make, e_part, e_slice, e_ixM, e_setIx, e_append, e_popAt, e_lenM, e_fz, e_call, e_prop, e_getM, e_putM, e_getD, e_ixD, e_inD, e_methS0, e_fldSet, e_callO, e_callS, e_seqN, e_opN, vv_gt, vv_ge, vv_geS, vv_lt, vv_le, vv_add, vv_addL, vv_addT, vv_sub, vv_neg, vv_abs, vv_int, vv_intb, vv_lenL, vv_lenT, vv_lenS, vv_ixL, vv_ixT, vv_b, vv_tup, vv_lst, vv_tupL, vv_tupT, vv_listN, vv_seqL, vv_seqT, vv_asc, vv_alpha, vv_lower, vv_strS, vv_moL, vv_moD, vv_tyI, vv_tyB, vv_tyS, vv_tyL, vv_tyT, vv_tyD, vv_tyN, vv_min, vv_max, vv_keys, vv_asI, vv_k1, vv_k2, vv_eq, vv_ne, vv_eqI, vv_ii, vv_ib, vv_bi, vv_bb, vv_tt, vv_ss, vv_dd, ixN, lstAt, dicAt, atI_0, atI_1, atI_2, outs, getMs, putM, putMs, ownB, isM, isS, okF, okI, sizeLine]
    · simp [wipeG, e_ret, e_lift, e_bnd, e_var, e_C, e_op, e_un, e_nil, e_cons, e_fn, e_test, e_notT, e_andT, e_orT, e_notV, e_andV, e_orV, e_if, e_tt, e_ff, e_chain, e_tup, e_lst, e_next, e_seq, e_nx, e_rt, e_drop, e_mret, e_retN, e_set, e_asg, e_par, e_par3, e_par2N, e_setD, e_setM, e_own, e_isi, e_tupT, e_nilT, e_consT, e_lstN, e_dic0, e_fnN, e_callN, e_fzN, e_seqO, e_itA, e_for, e_attr, e_raise, e_make, e_part, e_slice, e_ixM, e_setIx, e_append, e_popAt, e_lenM, e_fz, e_call, e_prop, e_getM, e_putM, e_getD, e_ixD, e_inD, e_methS0, e_fldSet, e_callO, e_callS, e_seqN, e_opN, vv_gt, vv_ge, vv_geS, vv_lt, vv_le, vv_add, vv_addL, vv_addT, vv_sub, vv_neg, vv_abs, vv_int, vv_intb, vv_lenL, vv_lenT, vv_lenS, vv_ixL, vv_ixT, vv_b, vv_tup, vv_lst, vv_tupL, vv_tupT, vv_listN, vv_seqL, vv_seqT, vv_asc, vv_alpha, vv_lower, vv_strS, vv_moL, vv_moD, vv_tyI, vv_tyB, vv_tyS, vv_tyL, vv_tyT, vv_tyD, vv_tyN, vv_min, vv_max, vv_keys, vv_asI, vv_k1, vv_k2, vv_eq, vv_ne, vv_eqI, vv_ii, vv_ib, vv_bi, vv_bb, vv_tt, vv_ss, vv_dd, ixN, lstAt, dicAt, atI_0, atI_1, atI_2, outs, getMs, putM, putMs, ownB, isM, isS, okF, okI, sizeLine]
    · have v := val_dD n x
      rw [if_pos hx] at v
      by_cases c : cnt ps x = 0
      · simp [v, c, e_ret, e_lift, e_bnd, e_var, e_C, e_op, e_un, e_nil, e_cons, e_fn, e_test, e_notT, e_andT, e_orT, e_notV, e_andV, e_orV, e_if, e_tt, e_ff, e_chain, e_tup, e_lst, e_next, e_seq, e_nx, e_rt, e_drop, e_mret, e_retN, e_set, e_asg, e_par, e_par3, e_par2N, e_setD, e_setM, e_own, e_isi, e_tupT, e_nilT, e_consT, e_lstN, e_dic0, e_fnN, e_callN, e_fzN, e_seqO, e_itA, e_for, e_attr, e_raise, e_make, e_part, e_slice, e_ixM, e_setIx, e_append, e_popAt, e_lenM, e_fz, e_call, e_prop, e_getM, e_putM, e_getD, e_ixD, e_inD, e_methS0, e_fldSet, e_callO, e_callS, e_seqN, e_opN, vv_gt, vv_ge, vv_geS, vv_lt, vv_le, vv_add, vv_addL, vv_addT, vv_sub, vv_neg, vv_abs, vv_int, vv_intb, vv_lenL, vv_lenT, vv_lenS, vv_ixL, vv_ixT, vv_b, vv_tup, vv_lst, vv_tupL, vv_tupT, vv_listN, vv_seqL, vv_seqT, vv_asc, vv_alpha, vv_lower, vv_strS, vv_moL, vv_moD, vv_tyI, vv_tyB, vv_tyS, vv_tyL, vv_tyT, vv_tyD, vv_tyN, vv_min, vv_max, vv_keys, vv_asI, vv_k1, vv_k2, vv_eq, vv_ne, vv_eqI, vv_ii, vv_ib, vv_bi, vv_bb, vv_tt, vv_ss, vv_dd, ixN, lstAt, dicAt, atI_0, atI_1, atI_2, outs, getMs, putM, putMs, ownB, isM, isS, okF, okI, sizeLine]
      · simp [v, c, e_ret, e_lift, e_bnd, e_var, e_C, e_op, e_un, e_nil, e_cons, e_fn, e_test, e_notT, e_andT, e_orT, e_notV, e_andV, e_orV, e_if, e_tt, e_ff, e_chain, e_tup, e_lst, e_next, e_seq, e_nx, e_rt, e_drop, e_mret, e_retN, e_set, e_asg, e_par, e_par3, e_par2N, e_setD, e_setM, e_own, e_isi, e_tupT, e_nilT, e_consT, e_lstN, e_dic0, e_fnN, e_callN, e_fzN, e_seqO, e_itA, e_for, e_attr, e_raise, e_make, e_part, e_slice, e_ixM, e_setIx, e_append, e_popAt, e_lenM, e_fz, e_call, e_prop, e_getM, e_putM, e_getD, e_ixD, e_inD, e_methS0, e_fldSet, e_callO, e_callS, e_seqN, e_opN, vv_gt, vv_ge, vv_geS, vv_lt, vv_le, vv_add, vv_addL, vv_addT, vv_sub, vv_neg, vv_abs, vv_int, vv_intb, vv_lenL, vv_lenT, vv_lenS, vv_ixL, vv_ixT, vv_b, vv_tup, vv_lst, vv_tupL, vv_tupT, vv_listN, vv_seqL, vv_seqT, vv_asc, vv_alpha, vv_lower, vv_strS, vv_moL, vv_moD, vv_tyI, vv_tyB, vv_tyS, vv_tyL, vv_tyT, vv_tyD, vv_tyN, vv_min, vv_max, vv_keys, vv_asI, vv_k1, vv_k2, vv_eq, vv_ne, vv_eqI, vv_ii, vv_ib, vv_bi, vv_bb, vv_tt, vv_ss, vv_dd, ixN, lstAt, dicAt, atI_0, atI_1, atI_2, outs, getMs, putM, putMs, ownB, isM, isS, okF, okI, sizeLine]
  case hl => simp [sizeLine]; omega
  have ef : ((nms ps).map Dat.str).filterMap (fun d => match d with | .str x => if (cnt ps x != 0) = true then some (.str x) else none | _ => none) = xs.map Dat.str := by
    rw [← hxs]
    generalize nms ps = ys
    induction ys with
    | nil => rfl
    | cons y r ih =>
      rw [List.map_cons, List.filterMap_cons, List.filter_cons]
      by_cases c : (cnt ps y != 0) = true
      · simp only [c, if_true]
        rw [ih]; rfl
      · simp only [c, if_false]
        simpa using ih
  rw [ef]
  simp [es, wipeG, backG, e_ret, e_lift, e_bnd, e_var, e_C, e_op, e_un, e_nil, e_cons, e_fn, e_test, e_notT, e_andT, e_orT, e_notV, e_andV, e_orV, e_if, e_tt, e_ff, e_chain, e_tup, e_lst, e_next, e_seq, e_nx, e_rt, e_drop, e_mret, e_retN, e_set, e_asg, e_par, e_par3, e_par2N, e_setD, e_setM, e_own, e_isi, e_tupT, e_nilT, e_consT, e_lstN, e_dic0, e_fnN, e_callN, e_fzN, e_seqO, e_itA, e_for, e_attr, e_raise, e_make, e_part, e_slice, e_ixM, e_setIx, e_append, e_popAt, e_lenM, e_fz, e_call, e_prop, e_getM, e_putM, e_getD, e_ixD, e_inD, e_methS0, e_fldSet, e_callO, e_callS, e_seqN, e_opN, vv_gt, vv_ge, vv_geS, vv_lt, vv_le, vv_add, vv_addL, vv_addT, vv_sub, vv_neg, vv_abs, vv_int, vv_intb, vv_lenL, vv_lenT, vv_lenS, vv_ixL, vv_ixT, vv_b, vv_tup, vv_lst, vv_tupL, vv_tupT, vv_listN, vv_seqL, vv_seqT, vv_asc, vv_alpha, vv_lower, vv_strS, vv_moL, vv_moD, vv_tyI, vv_tyB, vv_tyS, vv_tyL, vv_tyT, vv_tyD, vv_tyN, vv_min, vv_max, vv_keys, vv_asI, vv_k1, vv_k2, vv_eq, vv_ne, vv_eqI, vv_ii, vv_ib, vv_bi, vv_bb, vv_tt, vv_ss, vv_dd, ixN, lstAt, dicAt, atI_0, atI_1, atI_2, outs, getMs, putM, putMs, ownB, isM, isS, okF, okI, sizeLine]
  rw [mLc_map (g' := [.d (.dic (dD ps)), .d (.int k), .d (.lst ((sortT xs).map Dat.str)), .no]) (ds := (sortT xs).map Dat.str) (fun d => match d with | .str x => pD (x, cnt ps x) | _ => .non) ?hi ?hn ?h ?hl]
  case hi => simp [e_ret, e_lift, e_bnd, e_var, e_C, e_op, e_un, e_nil, e_cons, e_fn, e_test, e_notT, e_andT, e_orT, e_notV, e_andV, e_orV, e_if, e_tt, e_ff, e_chain, e_tup, e_lst, e_next, e_seq, e_nx, e_rt, e_drop, e_mret, e_retN, e_set, e_asg, e_par, e_par3, e_par2N, e_setD, e_setM, e_own, e_isi, e_tupT, e_nilT, e_consT, e_lstN, e_dic0, e_fnN, e_callN, e_fzN, e_seqO, e_itA, e_for, e_attr, e_raise, e_make, e_part, e_slice, e_ixM, e_setIx, e_append, e_popAt, e_lenM, e_fz, e_call, e_prop, e_getM, e_putM, e_getD, e_ixD, e_inD, e_methS0, e_fldSet, e_callO, e_callS, e_seqN, e_opN, vv_gt, vv_ge, vv_geS, vv_lt, vv_le, vv_add, vv_addL, vv_addT, vv_sub, vv_neg, vv_abs, vv_int, vv_intb, vv_lenL, vv_lenT, vv_lenS, vv_ixL, vv_ixT, vv_b, vv_tup, vv_lst, vv_tupL, vv_tupT, vv_listN, vv_seqL, vv_seqT, vv_asc, vv_alpha, vv_lower, vv_strS, vv_moL, vv_moD, vv_tyI, vv_tyB, vv_tyS, vv_tyL, vv_tyT, vv_tyD, vv_tyN, vv_min, vv_max, vv_keys, vv_asI, vv_k1, vv_k2, vv_eq, vv_ne, vv_eqI, vv_ii, vv_ib, vv_bi, vv_bb, vv_tt, vv_ss, vv_dd, ixN, lstAt, dicAt, atI_0, atI_1, atI_2, outs, getMs, putM, putMs, ownB, isM, isS, okF, okI, sizeLine]
  case hn => rfl
  case h =>
    intro d hd
    obtain ⟨x, hx, rfl⟩ := List.mem_map.mp hd
    have hx' : x ∈ nms ps := by
      rw [sortT_mem, ← hxs] at hx
      exact (List.mem_filter.mp hx).1
    have v := val_dD n x
    rw [if_pos hx'] at v
    refine ⟨[.d (.dic (dD ps)), .d (.int k), .d (.lst ((sortT xs).map Dat.str)), .d (.str x)], ?_, ?_, ?_, ?_⟩
    · simp [wipeG, e_ret, e_lift, e_bnd, e_var, e_C, e_op, e_un, e_nil, e_cons, e_fn, e_test, e_notT, e_andT, e_orT, e_notV, e_andV, e_orV, e_if, e_tt, e_ff, e_chain, e_tup, e_lst, e_next, e_seq, e_nx, e_rt, e_drop, e_mret, e_retN, e_set, e_asg, e_par, e_par3, e_par2N, e_setD, e_setM, e_own, e_isi, e_tupT, e_nilT, e_consT, e_lstN, e_dic0, e_fnN, e_callN, e_fzN, e_seqO, e_itA, e_for, e_attr, e_raise, e_make, e_part, e_slice, e_ixM, e_setIx, e_append, e_popAt, e_lenM, e_fz, e_call, e_prop, e_getM, e_putM, e_getD, e_ixD, e_inD, e_methS0, e_fldSet, e_callO, e_callS, e_seqN, e_opN, vv_gt, vv_ge, vv_geS, vv_lt, vv_le, vv_add, vv_addL, vv_addT, vv_sub, vv_neg, vv_abs, vv_int, vv_intb, vv_lenL, vv_lenT, vv_lenS, vv_ixL, vv_ixT, vv_b, vv_tup, vv_lst, vv_tupL, vv_tupT, vv_listN, vv_seqL, vv_seqT, vv_asc, vv_alpha, vv_lower, vv_strS, vv_moL, vv_moD, vv_tyI, vv_tyB, vv_tyS, vv_tyL, vv_tyT, vv_tyD, vv_tyN, vv_min, vv_max, vv_keys, vv_asI, vv_k1, vv_k2, vv_eq, vv_ne, vv_eqI, vv_ii, vv_ib, vv_bi, vv_bb, vv_tt, vv_ss, vv_dd, ixN, lstAt, dicAt, atI_0, atI_1, atI_2, outs, getMs, putM, putMs, ownB, isM, isS, okF, okI, sizeLine]
    · simp [wipeG, e_ret, e_lift, e_bnd, e_var, e_C, e_op, e_un, e_nil, e_cons, e_fn, e_test, e_notT, e_andT, e_orT, e_notV, e_andV, e_orV, e_if, e_tt, e_ff, e_chain, e_tup, e_lst, e_next, e_seq, e_nx, e_rt, e_drop, e_mret, e_retN, e_set, e_asg, e_par, e_par3, e_par2N, e_setD, e_setM, e_own, e_isi, e_tupT, e_nilT, e_consT, e_lstN, e_dic0, e_fnN, e_callN, e_fzN, e_seqO, e_itA, e_for, e_attr, e_raise, e_make, e_part, e_slice, e_ixM, e_setIx, e_append, e_popAt, e_lenM, e_fz, e_call, e_prop, e_getM, e_putM, e_getD, e_ixD, e_inD, e_methS0, e_fldSet, e_callO, e_callS, e_seqN, e_opN, vv_gt, vv_ge, vv_geS, vv_lt, vv_le, vv_add, vv_addL, vv_addT, vv_sub, vv_neg, vv_abs, vv_int, vv_intb, vv_lenL, vv_lenT, vv_lenS, vv_ixL, vv_ixT, vv_b, vv_tup, vv_lst, vv_tupL, vv_tupT, vv_listN, vv_seqL, vv_seqT, vv_asc, vv_alpha, vv_lower, vv_strS, vv_moL, vv_moD, vv_tyI, vv_tyB, vv_tyS, vv_tyL, vv_tyT, vv_tyD, vv_tyN, vv_min, vv_max, vv_keys, vv_asI, vv_k1, vv_k2, vv_eq, vv_ne, vv_eqI, vv_ii, vv_ib, vv_bi, vv_bb, vv_tt, vv_ss, vv_dd, ixN, lstAt, dicAt, atI_0, atI_1, atI_2, outs, getMs, putM, putMs, ownB, isM, isS, okF, okI, sizeLine]
    · simp [e_ret, e_lift, e_bnd, e_var, e_C, e_op, e_un, e_nil, e_cons, e_fn, e_test, e_notT, e_andT, e_orT, e_notV, e_andV, e_orV, e_if, e_tt, e_ff, e_chain, e_tup, e_lst, e_next, e_seq, e_nx, e_rt, e_drop, e_mret, e_retN, e_set, e_asg, e_par, e_par3, e_par2N, e_setD, e_setM, e_own, e_isi, e_tupT, e_nilT, e_consT, e_lstN, e_dic0, e_fnN, e_callN, e_fzN, e_seqO, e_itA, e_for, e_attr, e_raise, e_make, e_part, e_slice, e_ixM, e_setIx, e_append, e_popAt, e_lenM, e_fz, e_call, e_prop, e_getM, e_putM, e_getD, e_ixD, e_inD, e_methS0, e_fldSet, e_callO, e_callS, e_seqN, e_opN, vv_gt, vv_ge, vv_geS, vv_lt, vv_le, vv_add, vv_addL, vv_addT, vv_sub, vv_neg, vv_abs, vv_int, vv_intb, vv_lenL, vv_lenT, vv_lenS, vv_ixL, vv_ixT, vv_b, vv_tup, vv_lst, vv_tupL, vv_tupT, vv_listN, vv_seqL, vv_seqT, vv_asc, vv_alpha, vv_lower, vv_strS, vv_moL, vv_moD, vv_tyI, vv_tyB, vv_tyS, vv_tyL, vv_tyT, vv_tyD, vv_tyN, vv_min, vv_max, vv_keys, vv_asI, vv_k1, vv_k2, vv_eq, vv_ne, vv_eqI, vv_ii, vv_ib, vv_bi, vv_bb, vv_tt, vv_ss, vv_dd, ixN, lstAt, dicAt, atI_0, atI_1, atI_2, outs, getMs, putM, putMs, ownB, isM, isS, okF, okI, sizeLine]
    · simp [v, pD, e_ret, e_lift, e_bnd, e_var, e_C, e_op, e_un, e_nil, e_cons, e_fn, e_test, e_notT, e_andT, e_orT, e_notV, e_andV, e_orV, e_if, e_tt, e_ff, e_chain, e_tup, e_lst, e_next, e_seq, e_nx, e_rt, e_drop, e_mret, e_retN, e_set, e_asg, e_par, e_par3, e_par2N, e_setD, e_setM, e_own, e_isi, e_tupT, e_nilT, e_consT, e_lstN, e_dic0, e_fnN, e_callN, e_fzN, e_seqO, e_itA, e_for, e_attr, e_raise, e_make, e_part, e_slice, e_ixM, e_setIx, e_append, e_popAt, e_lenM, e_fz, e_call, e_prop, e_getM, e_putM, e_getD, e_ixD, e_inD, e_methS0, e_fldSet, e_callO, e_callS, e_seqN, e_opN, vv_gt, vv_ge, vv_geS, vv_lt, vv_le, vv_add, vv_addL, vv_addT, vv_sub, vv_neg, vv_abs, vv_int, vv_intb, vv_lenL, vv_lenT, vv_lenS, vv_ixL, vv_ixT, vv_b, vv_tup, vv_lst, vv_tupL, vv_tupT, vv_listN, vv_seqL, vv_seqT, vv_asc, vv_alpha, vv_lower, vv_strS, vv_moL, vv_moD, vv_tyI, vv_tyB, vv_tyS, vv_tyL, vv_tyT, vv_tyD, vv_tyN, vv_min, vv_max, vv_keys, vv_asI, vv_k1, vv_k2, vv_eq, vv_ne, vv_eqI, vv_ii, vv_ib, vv_bi, vv_bb, vv_tt, vv_ss, vv_dd, ixN, lstAt, dicAt, atI_0, atI_1, atI_2, outs, getMs, putM, putMs, ownB, isM, isS, okF, okI, sizeLine]
  case hl => simp [sortT_len, sizeLine]; omega
  have e3 : ((sortT xs).map Dat.str).map (fun d => match d with | .str x => pD (x, cnt ps x) | _ => .non) = psD (NF ps) := by
    rw [← er]
    unfold psD
    rw [List.map_map, List.map_map]
    rfl
  rw [e3]
  simp [ei, dd2, wipeG, backG, e_ret, e_lift, e_bnd, e_var, e_C, e_op, e_un, e_nil, e_cons, e_fn, e_test, e_notT, e_andT, e_orT, e_notV, e_andV, e_orV, e_if, e_tt, e_ff, e_chain, e_tup, e_lst, e_next, e_seq, e_nx, e_rt, e_drop, e_mret, e_retN, e_set, e_asg, e_par, e_par3, e_par2N, e_setD, e_setM, e_own, e_isi, e_tupT, e_nilT, e_consT, e_lstN, e_dic0, e_fnN, e_callN, e_fzN, e_seqO, e_itA, e_for, e_attr, e_raise, e_make, e_part, e_slice, e_ixM, e_setIx, e_append, e_popAt, e_lenM, e_fz, e_call, e_prop, e_getM, e_putM, e_getD, e_ixD, e_inD, e_methS0, e_fldSet, e_callO, e_callS, e_seqN, e_opN, vv_gt, vv_ge, vv_geS, vv_lt, vv_le, vv_add, vv_addL, vv_addT, vv_sub, vv_neg, vv_abs, vv_int, vv_intb, vv_lenL, vv_lenT, vv_lenS, vv_ixL, vv_ixT, vv_b, vv_tup, vv_lst, vv_tupL, vv_tupT, vv_listN, vv_seqL, vv_seqT, vv_asc, vv_alpha, vv_lower, vv_strS, vv_moL, vv_moD, vv_tyI, vv_tyB, vv_tyS, vv_tyL, vv_tyT, vv_tyD, vv_tyN, vv_min, vv_max, vv_keys, vv_asI, vv_k1, vv_k2, vv_eq, vv_ne, vv_eqI, vv_ii, vv_ib, vv_bi, vv_bb, vv_tt, vv_ss, vv_dd, ixN, lstAt, dicAt, atI_0, atI_1, atI_2, outs, getMs, putM, putMs, ownB, isM, isS, okF, okI, sizeLine]
theorem l1 : (("_number" : Str) == "_parts") = false := by decide
theorem l2 : (("_counts" : Str) == "_parts") = false := by decide
theorem l3 : (("_counts" : Str) == "_number") = false := by decide
theorem parts_g {x y z : Dat} : F_parts [] [.obj "Sum" [("_parts", x), ("_number", y), ("_counts", z)]] = some (.ok x []) := by
  unfold F_parts runF
  simp [m_parts, List.lookup, e_ret, e_lift, e_bnd, e_var, e_C, e_op, e_un, e_nil, e_cons, e_fn, e_test, e_notT, e_andT, e_orT, e_notV, e_andV, e_orV, e_if, e_tt, e_ff, e_chain, e_tup, e_lst, e_next, e_seq, e_nx, e_rt, e_drop, e_mret, e_retN, e_set, e_asg, e_par, e_par3, e_par2N, e_setD, e_setM, e_own, e_isi, e_tupT, e_nilT, e_consT, e_lstN, e_dic0, e_fnN, e_callN, e_fzN, e_seqO, e_itA, e_for, e_attr, e_raise, e_make, e_part, e_slice, e_ixM, e_setIx, e_append, e_popAt, e_lenM, e_fz, e_call, e_prop, e_getM, e_putM, e_getD, e_ixD, e_inD, e_methS0, e_fldSet, e_callO, e_callS, e_seqN, e_opN, vv_gt, vv_ge, vv_geS, vv_lt, vv_le, vv_add, vv_addL, vv_addT, vv_sub, vv_neg, vv_abs, vv_int, vv_intb, vv_lenL, vv_lenT, vv_lenS, vv_ixL, vv_ixT, vv_b, vv_tup, vv_lst, vv_tupL, vv_tupT, vv_listN, vv_seqL, vv_seqT, vv_asc, vv_alpha, vv_lower, vv_strS, vv_moL, vv_moD, vv_tyI, vv_tyB, vv_tyS, vv_tyL, vv_tyT, vv_tyD, vv_tyN, vv_min, vv_max, vv_keys, vv_asI, vv_k1, vv_k2, vv_eq, vv_ne, vv_eqI, vv_ii, vv_ib, vv_bi, vv_bb, vv_tt, vv_ss, vv_dd, ixN, lstAt, dicAt, atI_0, atI_1, atI_2, outs, getMs, putM, putMs, ownB, isM, isS, okF, okI, sizeLine]
theorem number_g {x y z : Dat} : F_number [] [.obj "Sum" [("_parts", x), ("_number", y), ("_counts", z)]] = some (.ok y []) := by
  unfold F_number runF
  simp [m_number, List.lookup, l1, e_ret, e_lift, e_bnd, e_var, e_C, e_op, e_un, e_nil, e_cons, e_fn, e_test, e_notT, e_andT, e_orT, e_notV, e_andV, e_orV, e_if, e_tt, e_ff, e_chain, e_tup, e_lst, e_next, e_seq, e_nx, e_rt, e_drop, e_mret, e_retN, e_set, e_asg, e_par, e_par3, e_par2N, e_setD, e_setM, e_own, e_isi, e_tupT, e_nilT, e_consT, e_lstN, e_dic0, e_fnN, e_callN, e_fzN, e_seqO, e_itA, e_for, e_attr, e_raise, e_make, e_part, e_slice, e_ixM, e_setIx, e_append, e_popAt, e_lenM, e_fz, e_call, e_prop, e_getM, e_putM, e_getD, e_ixD, e_inD, e_methS0, e_fldSet, e_callO, e_callS, e_seqN, e_opN, vv_gt, vv_ge, vv_geS, vv_lt, vv_le, vv_add, vv_addL, vv_addT, vv_sub, vv_neg, vv_abs, vv_int, vv_intb, vv_lenL, vv_lenT, vv_lenS, vv_ixL, vv_ixT, vv_b, vv_tup, vv_lst, vv_tupL, vv_tupT, vv_listN, vv_seqL, vv_seqT, vv_asc, vv_alpha, vv_lower, vv_strS, vv_moL, vv_moD, vv_tyI, vv_tyB, vv_tyS, vv_tyL, vv_tyT, vv_tyD, vv_tyN, vv_min, vv_max, vv_keys, vv_asI, vv_k1, vv_k2, vv_eq, vv_ne, vv_eqI, vv_ii, vv_ib, vv_bi, vv_bb, vv_tt, vv_ss, vv_dd, ixN, lstAt, dicAt, atI_0, atI_1, atI_2, outs, getMs, putM, putMs, ownB, isM, isS, okF, okI, sizeLine]
theorem added_ok {ps qs : Prs} {a b t : Int} (hp : Good ps) (hq : Good qs) (hl : ps.length + qs.length < 64) (ht : t.natAbs < 2 ^ 100) (hb : b.natAbs < 2 ^ 100) (hk : ∀ p ∈ qs, p.2.natAbs < 2 ^ 100) : F_added [] [SumD ps a, SumD qs b, .int t] = some (.ok (SumD (NF (ps ++ scl t qs)) (a + t * b)) []) := by
  have nm : ∀ x, x ∈ nms ps ∨ x ∈ nms qs → NmOk x := fun x h => h.elim (hp.nm x) (hq.nm x)
  have loop := fun ds g => @forL_inv (tupT 2 (consT (setD 4) (consT (setD 5) nilT))) (mPutM 3 (mVar 4) (mOp addF (mGetM 3 (mVar 4) (mC (.int 0))) (mOp mulF (mVar 2) (mVar 5))))
    (fun r g => ∃ x y rs ts, g = [Sl.d (SumD ps a), .d (SumD qs b), .d (.int t), .m false (.dic (dD rs)), x, y] ∧ (x = .no ∨ ∃ d, x = .d d) ∧ (y = .no ∨ ∃ d, y = .d d) ∧ r = psD ts ∧ (∀ p ∈ ts, p.2.natAbs < 2 ^ 100) ∧ (nms rs).Nodup ∧ rs.length + ts.length < 64 ∧ addAll rs (scl t ts) = addAll ps (scl t qs))
    (fun d r g ⟨x, y, rs, ts, hg, hx, hy, hr, hk, hn, hl, ha⟩ => by
      cases ts with
      | nil => cases hr
      | cons p ts =>
        cases hr
        rw [List.length_cons] at hl
        have em : mulF (.int t) (.int p.2) = some (.int (t * p.2)) := mulF_ok (by omega) (by have := hk p List.mem_cons_self; omega)
        have eg := val_get hn p.1
        have ep := put_dD rs p.1 (cnt rs p.1 + t * p.2)
        have el : (dD rs).length < 2 ^ 24 := by simp [dD]; omega
        refine ⟨[Sl.d (SumD ps a), .d (SumD qs b), .d (.int t), .m false (.dic (dD rs)), .d (.str p.1), .d (.int p.2)], [Sl.d (SumD ps a), .d (SumD qs b), .d (.int t), .m false (.dic (dD (addP rs p.1 (t * p.2)))), .d (.str p.1), .d (.int p.2)], ?_, ?_, _, _, _, ts, rfl, .inr ⟨_, rfl⟩, .inr ⟨_, rfl⟩, rfl, fun p hp => hk p (List.mem_cons_of_mem _ hp), addP_nodup hn, ?_, ha⟩
        · subst hg
          rcases hx with rfl | ⟨d, rfl⟩ <;> rcases hy with rfl | ⟨d', rfl⟩ <;> simp [pD, e_ret, e_lift, e_bnd, e_var, e_C, e_op, e_un, e_nil, e_cons, e_fn, e_test, e_notT, e_andT, e_orT, e_notV, e_andV, e_orV, e_if, e_tt, e_ff, e_chain, e_tup, e_lst, e_next, e_seq, e_nx, e_rt, e_drop, e_mret, e_retN, e_set, e_asg, e_par, e_par3, e_par2N, e_setD, e_setM, e_own, e_isi, e_tupT, e_nilT, e_consT, e_lstN, e_dic0, e_fnN, e_callN, e_fzN, e_seqO, e_itA, e_for, e_attr, e_raise, e_make, e_part, e_slice, e_ixM, e_setIx, e_append, e_popAt, e_lenM, e_fz, e_call, e_prop, e_getM, e_putM, e_getD, e_ixD, e_inD, e_methS0, e_fldSet, e_callO, e_callS, e_seqN, e_opN, vv_gt, vv_ge, vv_geS, vv_lt, vv_le, vv_add, vv_addL, vv_addT, vv_sub, vv_neg, vv_abs, vv_int, vv_intb, vv_lenL, vv_lenT, vv_lenS, vv_ixL, vv_ixT, vv_b, vv_tup, vv_lst, vv_tupL, vv_tupT, vv_listN, vv_seqL, vv_seqT, vv_asc, vv_alpha, vv_lower, vv_strS, vv_moL, vv_moD, vv_tyI, vv_tyB, vv_tyS, vv_tyL, vv_tyT, vv_tyD, vv_tyN, vv_min, vv_max, vv_keys, vv_asI, vv_k1, vv_k2, vv_eq, vv_ne, vv_eqI, vv_ii, vv_ib, vv_bi, vv_bb, vv_tt, vv_ss, vv_dd, ixN, lstAt, dicAt, atI_0, atI_1, atI_2, outs, getMs, putM, putMs, ownB, isM, isS, okF, okI, sizeLine]
        · unfold addP
          simp [em, eg, ep, el, e_ret, e_lift, e_bnd, e_var, e_C, e_op, e_un, e_nil, e_cons, e_fn, e_test, e_notT, e_andT, e_orT, e_notV, e_andV, e_orV, e_if, e_tt, e_ff, e_chain, e_tup, e_lst, e_next, e_seq, e_nx, e_rt, e_drop, e_mret, e_retN, e_set, e_asg, e_par, e_par3, e_par2N, e_setD, e_setM, e_own, e_isi, e_tupT, e_nilT, e_consT, e_lstN, e_dic0, e_fnN, e_callN, e_fzN, e_seqO, e_itA, e_for, e_attr, e_raise, e_make, e_part, e_slice, e_ixM, e_setIx, e_append, e_popAt, e_lenM, e_fz, e_call, e_prop, e_getM, e_putM, e_getD, e_ixD, e_inD, e_methS0, e_fldSet, e_callO, e_callS, e_seqN, e_opN, vv_gt, vv_ge, vv_geS, vv_lt, vv_le, vv_add, vv_addL, vv_addT, vv_sub, vv_neg, vv_abs, vv_int, vv_intb, vv_lenL, vv_lenT, vv_lenS, vv_ixL, vv_ixT, vv_b, vv_tup, vv_lst, vv_tupL, vv_tupT, vv_listN, vv_seqL, vv_seqT, vv_asc, vv_alpha, vv_lower, vv_strS, vv_moL, vv_moD, vv_tyI, vv_tyB, vv_tyS, vv_tyL, vv_tyT, vv_tyD, vv_tyN, vv_min, vv_max, vv_keys, vv_asI, vv_k1, vv_k2, vv_eq, vv_ne, vv_eqI, vv_ii, vv_ib, vv_bi, vv_bb, vv_tt, vv_ss, vv_dd, ixN, lstAt, dicAt, atI_0, atI_1, atI_2, outs, getMs, putM, putMs, ownB, isM, isS, okF, okI, sizeLine]
        · have := addP_len (ps := rs) (x := p.1) (k := t * p.2)
          omega) ds g
  obtain ⟨g', e, x, y, rs, ts, hg, hx, hy, hr, _, hn, hl', ha⟩ := loop (psD qs) [Sl.d (SumD ps a), .d (SumD qs b), .d (.int t), .m false (.dic (dD ps)), .no, .no] ⟨_, _, ps, qs, rfl, .inl rfl, .inl rfl, rfl, hk, hp.n.nodup, hl, rfl⟩
  have ht0 : ts = [] := by cases ts with
    | nil => rfl
    | cons p r => cases hr
  subst ht0
  have hrs : rs = addAll ps (scl t qs) := ha
  have em : mulF (.int t) (.int b) = some (.int (t * b)) := mulF_ok (by omega) (by omega)
  have ec := counted_ok (ps := rs) (k := a + t * b) hn (fun x hx => by
    rw [hrs, addAll_nms] at hx
    refine nm x (hx.imp id fun h => ?_)
    simpa [nms, scl] using h) (by simpa using hl')
  have en : NF rs = NF (ps ++ scl t qs) := NF_ext fun x => by rw [hrs, addAll_cnt hp.n.nodup, cnt_app]
  rw [en] at ec
  have ed := dictO_T hp.n.nodup
  unfold F_added runF
  simp only [m_added, List.map_cons, List.map_nil, List.replicate, List.length_cons, List.length_nil, List.append_nil, List.nil_append, List.cons_append]
  unfold SumD at e ec hg ⊢
  simp [e, em, ec, ed, hg, parts_g, number_g, l1, l2, l3, List.lookup, e_ret, e_lift, e_bnd, e_var, e_C, e_op, e_un, e_nil, e_cons, e_fn, e_test, e_notT, e_andT, e_orT, e_notV, e_andV, e_orV, e_if, e_tt, e_ff, e_chain, e_tup, e_lst, e_next, e_seq, e_nx, e_rt, e_drop, e_mret, e_retN, e_set, e_asg, e_par, e_par3, e_par2N, e_setD, e_setM, e_own, e_isi, e_tupT, e_nilT, e_consT, e_lstN, e_dic0, e_fnN, e_callN, e_fzN, e_seqO, e_itA, e_for, e_attr, e_raise, e_make, e_part, e_slice, e_ixM, e_setIx, e_append, e_popAt, e_lenM, e_fz, e_call, e_prop, e_getM, e_putM, e_getD, e_ixD, e_inD, e_methS0, e_fldSet, e_callO, e_callS, e_seqN, e_opN, vv_gt, vv_ge, vv_geS, vv_lt, vv_le, vv_add, vv_addL, vv_addT, vv_sub, vv_neg, vv_abs, vv_int, vv_intb, vv_lenL, vv_lenT, vv_lenS, vv_ixL, vv_ixT, vv_b, vv_tup, vv_lst, vv_tupL, vv_tupT, vv_listN, vv_seqL, vv_seqT, vv_asc, vv_alpha, vv_lower, vv_strS, vv_moL, vv_moD, vv_tyI, vv_tyB, vv_tyS, vv_tyL, vv_tyT, vv_tyD, vv_tyN, vv_min, vv_max, vv_keys, vv_asI, vv_k1, vv_k2, vv_eq, vv_ne, vv_eqI, vv_ii, vv_ib, vv_bi, vv_bb, vv_tt, vv_ss, vv_dd, ixN, lstAt, dicAt, atI_0, atI_1, atI_2, outs, getMs, putM, putMs, ownB, isM, isS, okF, okI, sizeLine]
theorem compK_put {vs : List Nat} {t : Dat → M Unit} {mt : M Bool} {mk mv : M Dat} {w : Frm} {tm : Int} : ∀ {ts rs : Prs}, (∀ p ∈ ts, ∃ g1, t (pD p) w = some (.ok () g1) ∧ wipeG g1 vs = w ∧ mt g1 = some (.ok true g1) ∧ mk g1 = some (.ok (.str p.1) g1) ∧ mv g1 = some (.ok (.int (tm * p.2)) g1)) → rs.length + ts.length < 64 → (nms rs).Nodup → ∃ qs, compK vs t mt mk mv (psD ts) (dD rs) w = some (.ok (dD qs) w) ∧ (nms qs).Nodup ∧ qs.length ≤ rs.length + ts.length ∧ (∀ y, y ∈ nms qs ↔ y ∈ nms rs ∨ y ∈ nms ts) ∧ ((nms (rs ++ ts)).Nodup → qs = rs ++ scl tm ts)
  | [], rs, _, _, n => ⟨rs, rfl, n, by simp, fun y => by simp [nms], fun _ => by simp [scl]⟩
  | p :: r, rs, h, hl, n => by
    obtain ⟨g1, h1, hw, h2, h3, h4⟩ := h p List.mem_cons_self
    rw [List.length_cons] at hl
    have pl : (put rs p.1 (tm * p.2)).length ≤ rs.length + 1 := by unfold put; split <;> simp
    obtain ⟨qs, e, q1, q2, q3, q4⟩ := compK_put (tm := tm) (ts := r) (rs := put rs p.1 (tm * p.2)) (fun q hq => h q (List.mem_cons_of_mem _ hq)) (by omega) (put_nodup n)
    refine ⟨qs, ?_, q1, by rw [List.length_cons]; omega, fun y => ?_, fun hn => ?_⟩
    · show compK vs t mt mk mv (pD p :: psD r) (dD rs) w = _
      unfold compK bnd
      rw [h1]
      have sl : (dD rs).length < sizeLine := by simp [dD, sizeLine]; omega
      simp only [bnd, noEx_ok h2, if_true, noEx_ok h3, noEx_ok h4, vv_k2, sl, hw, put_dD]
      exact e
    · rw [q3, put_nms, mem_nms]
      split
      · rename_i hm
        exact ⟨fun z => z.elim .inl fun z => .inr (.inr z), fun z => z.elim .inl fun z => z.elim (fun e => .inl (e ▸ hm)) .inr⟩
      · rw [List.mem_append, List.mem_singleton, or_assoc]
    · have hm : p.1 ∉ nms rs := fun z => by
        unfold nms at hn z
        rw [List.map_append] at hn
        exact (List.nodup_append.mp hn).2.2 _ z _ List.mem_cons_self rfl
      rw [q4 ?_, put_new hm, List.append_assoc]
      · rfl
      · rw [put_new hm, List.append_assoc]
        unfold nms at hn ⊢
        simpa using hn
theorem times_ok {ps : Prs} {a t : Int} (hp : Good ps) (ht : t.natAbs < 2 ^ 100) (ha : a.natAbs < 2 ^ 100) (hk : ∀ p ∈ ps, p.2.natAbs < 2 ^ 100) : F_times [] [SumD ps a, .int t] = some (.ok (SumD (NF (scl t ps)) (t * a)) []) := by
  have ec := counted_ok (ps := scl t ps) (k := t * a) (by rw [nms_scl]; exact hp.n.nodup) (by rw [nms_scl]; exact hp.nm) (by simpa [scl] using hp.l)
  have em : mulF (.int t) (.int a) = some (.int (t * a)) := mulF_ok (by omega) (by omega)
  obtain ⟨qs, e, _, _, _, q4⟩ := compK_put (vs := [2, 3]) (t := tupT 2 (consT (setD 2) (consT (setD 3) nilT))) (mt := DL.ret true) (mk := mVar 2) (mv := mOp mulF (mVar 1) (mVar 3)) (w := [.d (SumD ps a), .d (.int t), .no, .no]) (tm := t) (ts := ps) (rs := []) (fun p hp => by
    have em : mulF (.int t) (.int p.2) = some (.int (t * p.2)) := mulF_ok (by omega) (by have := hk p hp; omega)
    refine ⟨[.d (SumD ps a), .d (.int t), .d (.str p.1), .d (.int p.2)], ?_, ?_, ?_, ?_, ?_⟩ <;> simp [pD, em, wipeG, e_ret, e_lift, e_bnd, e_var, e_C, e_op, e_un, e_nil, e_cons, e_fn, e_test, e_notT, e_andT, e_orT, e_notV, e_andV, e_orV, e_if, e_tt, e_ff, e_chain, e_tup, e_lst, e_next, e_seq, e_nx, e_rt, e_drop, e_mret, e_retN, e_set, e_asg, e_par, e_par3, e_par2N, e_setD, e_setM, e_own, e_isi, e_tupT, e_nilT, e_consT, e_lstN, e_dic0, e_fnN, e_callN, e_fzN, e_seqO, e_itA, e_for, e_attr, e_raise, e_make, e_part, e_slice, e_ixM, e_setIx, e_append, e_popAt, e_lenM, e_fz, e_call, e_prop, e_getM, e_putM, e_getD, e_ixD, e_inD, e_methS0, e_fldSet, e_callO, e_callS, e_seqN, e_opN, vv_gt, vv_ge, vv_geS, vv_lt, vv_le, vv_add, vv_addL, vv_addT, vv_sub, vv_neg, vv_abs, vv_int, vv_intb, vv_lenL, vv_lenT, vv_lenS, vv_ixL, vv_ixT, vv_b, vv_tup, vv_lst, vv_tupL, vv_tupT, vv_listN, vv_seqL, vv_seqT, vv_asc, vv_alpha, vv_lower, vv_strS, vv_moL, vv_moD, vv_tyI, vv_tyB, vv_tyS, vv_tyL, vv_tyT, vv_tyD, vv_tyN, vv_min, vv_max, vv_keys, vv_asI, vv_k1, vv_k2, vv_eq, vv_ne, vv_eqI, vv_ii, vv_ib, vv_bi, vv_bb, vv_tt, vv_ss, vv_dd, ixN, lstAt, dicAt, atI_0, atI_1, atI_2, outs, getMs, putM, putMs, ownB, isM, isS, okF, okI, sizeLine]) (by simpa using hp.l) .nil
  have hq : qs = scl t ps := q4 hp.n.nodup
  subst hq
  have n1 : noM [Sl.d (SumD ps a), .d (.int t), .no, .no] [2, 3] = true := rfl
  have b1 : backG [Sl.d (SumD ps a), .d (.int t), .no, .no] [Sl.d (SumD ps a), .d (.int t), .no, .no] [2, 3] = [Sl.d (SumD ps a), .d (.int t), .no, .no] := rfl
  have w1 : wipeG [Sl.d (SumD ps a), .d (.int t), .no, .no] [2, 3] = [Sl.d (SumD ps a), .d (.int t), .no, .no] := rfl
  have e' : compK [2, 3] (tupT 2 (consT (setD 2) (consT (setD 3) nilT))) (DL.ret true) (mVar 2) (mOp mulF (mVar 1) (mVar 3)) (psD ps) [] [.d (SumD ps a), .d (.int t), .no, .no] = some (.ok (dD (scl t ps)) [.d (SumD ps a), .d (.int t), .no, .no]) := e
  unfold F_times runF
  simp only [m_times, List.map_cons, List.map_nil, List.replicate, List.length_cons, List.length_nil, List.append_nil, List.nil_append, List.cons_append]
  unfold SumD at *
  simp [mDcN, e', em, ec, n1, b1, w1, parts_g, number_g, l1, l2, l3, List.lookup, e_ret, e_lift, e_bnd, e_var, e_C, e_op, e_un, e_nil, e_cons, e_fn, e_test, e_notT, e_andT, e_orT, e_notV, e_andV, e_orV, e_if, e_tt, e_ff, e_chain, e_tup, e_lst, e_next, e_seq, e_nx, e_rt, e_drop, e_mret, e_retN, e_set, e_asg, e_par, e_par3, e_par2N, e_setD, e_setM, e_own, e_isi, e_tupT, e_nilT, e_consT, e_lstN, e_dic0, e_fnN, e_callN, e_fzN, e_seqO, e_itA, e_for, e_attr, e_raise, e_make, e_part, e_slice, e_ixM, e_setIx, e_append, e_popAt, e_lenM, e_fz, e_call, e_prop, e_getM, e_putM, e_getD, e_ixD, e_inD, e_methS0, e_fldSet, e_callO, e_callS, e_seqN, e_opN, vv_gt, vv_ge, vv_geS, vv_lt, vv_le, vv_add, vv_addL, vv_addT, vv_sub, vv_neg, vv_abs, vv_int, vv_intb, vv_lenL, vv_lenT, vv_lenS, vv_ixL, vv_ixT, vv_b, vv_tup, vv_lst, vv_tupL, vv_tupT, vv_listN, vv_seqL, vv_seqT, vv_asc, vv_alpha, vv_lower, vv_strS, vv_moL, vv_moD, vv_tyI, vv_tyB, vv_tyS, vv_tyL, vv_tyT, vv_tyD, vv_tyN, vv_min, vv_max, vv_keys, vv_asI, vv_k1, vv_k2, vv_eq, vv_ne, vv_eqI, vv_ii, vv_ib, vv_bi, vv_bb, vv_tt, vv_ss, vv_dd, ixN, lstAt, dicAt, atI_0, atI_1, atI_2, outs, getMs, putM, putMs, ownB, isM, isS, okF, okI, sizeLine]
/-! ### what it comes to -/
structure Vals (vs : Prs) : Prop where
  n : (nms vs).Nodup
  nm : ∀ x ∈ nms vs, NmOk x
  b : ∀ x, (cnt vs x).natAbs < 2 ^ 60
def itD (p : Str × Int) : Dat := .tup false [.str p.1, .int p.2]
theorem items_dD (ps : Prs) : itemsO (.dic (dD ps)) = some (ps.map itD) := by
  show some ((dD ps).map _) = _
  unfold dD
  rw [List.map_map]
  rfl
theorem are_values_ok {vs ps : Prs} (hv : Vals vs) (hs : ∀ x ∈ nms ps, x ∈ nms vs) : F_are_values [] [.dic (dD vs), .tup true (psD ps)] = some (.ok (.bl true) []) := by
  have loop1 := fun ds g => @forL_inv (tupT 2 (consT (setD 2) (consT (setD 3) nilT))) (mIf (mOrT (mNotT (mTest (mCall [] (okF F_is_name) [] (mCons (mVar 2) mNil)))) (mNotT (mTest (mCall [] (okF F_is_integer) [] (mCons (mVar 3) mNil))))) (mRet (mC (.bl false))) mNext)
    (fun r g => ∃ x y, g = [Sl.d (.dic (dD vs)), .d (.tup true (psD ps)), x, y, .no] ∧ (x = .no ∨ ∃ d, x = .d d) ∧ (y = .no ∨ ∃ d, y = .d d) ∧ ∀ d ∈ r, ∃ p, d = itD p ∧ p ∈ vs)
    (fun d r g ⟨x, y, hg, hx, hy, hr⟩ => by
      obtain ⟨p, rfl, hp⟩ := hr d List.mem_cons_self
      have e1 := is_name_ok (hv.nm _ (List.mem_map_of_mem hp))
      have e2 := is_integer_ok p.2
      refine ⟨[Sl.d (.dic (dD vs)), .d (.tup true (psD ps)), .d (.str p.1), .d (.int p.2), .no], _, ?_, ?_, .d (.str p.1), .d (.int p.2), rfl, .inr ⟨_, rfl⟩, .inr ⟨_, rfl⟩, fun d hd => hr d (List.mem_cons_of_mem _ hd)⟩
      · subst hg
        rcases hx with rfl | ⟨d, rfl⟩ <;> rcases hy with rfl | ⟨d', rfl⟩ <;> simp [itD, e_ret, e_lift, e_bnd, e_var, e_C, e_op, e_un, e_nil, e_cons, e_fn, e_test, e_notT, e_andT, e_orT, e_notV, e_andV, e_orV, e_if, e_tt, e_ff, e_chain, e_tup, e_lst, e_next, e_seq, e_nx, e_rt, e_drop, e_mret, e_retN, e_set, e_asg, e_par, e_par3, e_par2N, e_setD, e_setM, e_own, e_isi, e_tupT, e_nilT, e_consT, e_lstN, e_dic0, e_fnN, e_callN, e_fzN, e_seqO, e_itA, e_for, e_attr, e_raise, e_make, e_part, e_slice, e_ixM, e_setIx, e_append, e_popAt, e_lenM, e_fz, e_call, e_prop, e_getM, e_putM, e_getD, e_ixD, e_inD, e_methS0, e_fldSet, e_callO, e_callS, e_seqN, e_opN, vv_gt, vv_ge, vv_geS, vv_lt, vv_le, vv_add, vv_addL, vv_addT, vv_sub, vv_neg, vv_abs, vv_int, vv_intb, vv_lenL, vv_lenT, vv_lenS, vv_ixL, vv_ixT, vv_b, vv_tup, vv_lst, vv_tupL, vv_tupT, vv_listN, vv_seqL, vv_seqT, vv_asc, vv_alpha, vv_lower, vv_strS, vv_moL, vv_moD, vv_tyI, vv_tyB, vv_tyS, vv_tyL, vv_tyT, vv_tyD, vv_tyN, vv_min, vv_max, vv_keys, vv_asI, vv_k1, vv_k2, vv_eq, vv_ne, vv_eqI, vv_ii, vv_ib, vv_bi, vv_bb, vv_tt, vv_ss, vv_dd, ixN, lstAt, dicAt, atI_0, atI_1, atI_2, outs, getMs, putM, putMs, ownB, isM, isS, okF, okI, sizeLine]
      · simp [e1, e2, e_ret, e_lift, e_bnd, e_var, e_C, e_op, e_un, e_nil, e_cons, e_fn, e_test, e_notT, e_andT, e_orT, e_notV, e_andV, e_orV, e_if, e_tt, e_ff, e_chain, e_tup, e_lst, e_next, e_seq, e_nx, e_rt, e_drop, e_mret, e_retN, e_set, e_asg, e_par, e_par3, e_par2N, e_setD, e_setM, e_own, e_isi, e_tupT, e_nilT, e_consT, e_lstN, e_dic0, e_fnN, e_callN, e_fzN, e_seqO, e_itA, e_for, e_attr, e_raise, e_make, e_part, e_slice, e_ixM, e_setIx, e_append, e_popAt, e_lenM, e_fz, e_call, e_prop, e_getM, e_putM, e_getD, e_ixD, e_inD, e_methS0, e_fldSet, e_callO, e_callS, e_seqN, e_opN, vv_gt, vv_ge, vv_geS, vv_lt, vv_le, vv_add, vv_addL, vv_addT, vv_sub, vv_neg, vv_abs, vv_int, vv_intb, vv_lenL, vv_lenT, vv_lenS, vv_ixL, vv_ixT, vv_b, vv_tup, vv_lst, vv_tupL, vv_tupT, vv_listN, vv_seqL, vv_seqT, vv_asc, vv_alpha, vv_lower, vv_strS, vv_moL, vv_moD, vv_tyI, vv_tyB, vv_tyS, vv_tyL, vv_tyT, vv_tyD, vv_tyN, vv_min, vv_max, vv_keys, vv_asI, vv_k1, vv_k2, vv_eq, vv_ne, vv_eqI, vv_ii, vv_ib, vv_bi, vv_bb, vv_tt, vv_ss, vv_dd, ixN, lstAt, dicAt, atI_0, atI_1, atI_2, outs, getMs, putM, putMs, ownB, isM, isS, okF, okI, sizeLine]) ds g
  obtain ⟨g', e1, x, y, hg, hx, hy, _⟩ := loop1 (vs.map itD) [Sl.d (.dic (dD vs)), .d (.tup true (psD ps)), .no, .no, .no] ⟨_, _, rfl, .inl rfl, .inl rfl, fun d hd => by
    obtain ⟨p, hp, rfl⟩ := List.mem_map.mp hd
    exact ⟨p, rfl, hp⟩⟩
  have loop2 := fun ds g => @forL_inv (tupT 2 (consT (setD 2) (consT (setD 4) nilT))) (mIf (mTest (mInD true (mVar 2) (mVar 0))) (mRet (mC (.bl false))) mNext)
    (fun r g => ∃ x z, g = [Sl.d (.dic (dD vs)), .d (.tup true (psD ps)), x, y, z] ∧ (x = .no ∨ ∃ d, x = .d d) ∧ (z = .no ∨ ∃ d, z = .d d) ∧ ∀ d ∈ r, ∃ p, d = pD p ∧ p ∈ ps)
    (fun d r g ⟨x, z, hg, hx, hz, hr⟩ => by
      obtain ⟨p, rfl, hp⟩ := hr d List.mem_cons_self
      have e1 := val_dD hv.n p.1
      rw [if_pos (hs _ (List.mem_map_of_mem hp))] at e1
      refine ⟨[Sl.d (.dic (dD vs)), .d (.tup true (psD ps)), .d (.str p.1), y, .d (.int p.2)], _, ?_, ?_, .d (.str p.1), .d (.int p.2), rfl, .inr ⟨_, rfl⟩, .inr ⟨_, rfl⟩, fun d hd => hr d (List.mem_cons_of_mem _ hd)⟩
      · subst hg
        rcases hx with rfl | ⟨d, rfl⟩ <;> rcases hz with rfl | ⟨d', rfl⟩ <;> simp [pD, e_ret, e_lift, e_bnd, e_var, e_C, e_op, e_un, e_nil, e_cons, e_fn, e_test, e_notT, e_andT, e_orT, e_notV, e_andV, e_orV, e_if, e_tt, e_ff, e_chain, e_tup, e_lst, e_next, e_seq, e_nx, e_rt, e_drop, e_mret, e_retN, e_set, e_asg, e_par, e_par3, e_par2N, e_setD, e_setM, e_own, e_isi, e_tupT, e_nilT, e_consT, e_lstN, e_dic0, e_fnN, e_callN, e_fzN, e_seqO, e_itA, e_for, e_attr, e_raise, e_make, e_part, e_slice, e_ixM, e_setIx, e_append, e_popAt, e_lenM, e_fz, e_call, e_prop, e_getM, e_putM, e_getD, e_ixD, e_inD, e_methS0, e_fldSet, e_callO, e_callS, e_seqN, e_opN, vv_gt, vv_ge, vv_geS, vv_lt, vv_le, vv_add, vv_addL, vv_addT, vv_sub, vv_neg, vv_abs, vv_int, vv_intb, vv_lenL, vv_lenT, vv_lenS, vv_ixL, vv_ixT, vv_b, vv_tup, vv_lst, vv_tupL, vv_tupT, vv_listN, vv_seqL, vv_seqT, vv_asc, vv_alpha, vv_lower, vv_strS, vv_moL, vv_moD, vv_tyI, vv_tyB, vv_tyS, vv_tyL, vv_tyT, vv_tyD, vv_tyN, vv_min, vv_max, vv_keys, vv_asI, vv_k1, vv_k2, vv_eq, vv_ne, vv_eqI, vv_ii, vv_ib, vv_bi, vv_bb, vv_tt, vv_ss, vv_dd, ixN, lstAt, dicAt, atI_0, atI_1, atI_2, outs, getMs, putM, putMs, ownB, isM, isS, okF, okI, sizeLine]
      · simp [e1, e_ret, e_lift, e_bnd, e_var, e_C, e_op, e_un, e_nil, e_cons, e_fn, e_test, e_notT, e_andT, e_orT, e_notV, e_andV, e_orV, e_if, e_tt, e_ff, e_chain, e_tup, e_lst, e_next, e_seq, e_nx, e_rt, e_drop, e_mret, e_retN, e_set, e_asg, e_par, e_par3, e_par2N, e_setD, e_setM, e_own, e_isi, e_tupT, e_nilT, e_consT, e_lstN, e_dic0, e_fnN, e_callN, e_fzN, e_seqO, e_itA, e_for, e_attr, e_raise, e_make, e_part, e_slice, e_ixM, e_setIx, e_append, e_popAt, e_lenM, e_fz, e_call, e_prop, e_getM, e_putM, e_getD, e_ixD, e_inD, e_methS0, e_fldSet, e_callO, e_callS, e_seqN, e_opN, vv_gt, vv_ge, vv_geS, vv_lt, vv_le, vv_add, vv_addL, vv_addT, vv_sub, vv_neg, vv_abs, vv_int, vv_intb, vv_lenL, vv_lenT, vv_lenS, vv_ixL, vv_ixT, vv_b, vv_tup, vv_lst, vv_tupL, vv_tupT, vv_listN, vv_seqL, vv_seqT, vv_asc, vv_alpha, vv_lower, vv_strS, vv_moL, vv_moD, vv_tyI, vv_tyB, vv_tyS, vv_tyL, vv_tyT, vv_tyD, vv_tyN, vv_min, vv_max, vv_keys, vv_asI, vv_k1, vv_k2, vv_eq, vv_ne, vv_eqI, vv_ii, vv_ib, vv_bi, vv_bb, vv_tt, vv_ss, vv_dd, ixN, lstAt, dicAt, atI_0, atI_1, atI_2, outs, getMs, putM, putMs, ownB, isM, isS, okF, okI, sizeLine]) ds g
  obtain ⟨g2, e2, x2, z2, hg2, _⟩ := loop2 (psD ps) [Sl.d (.dic (dD vs)), .d (.tup true (psD ps)), x, y, .no] ⟨_, _, rfl, hx, .inl rfl, fun d hd => by
    obtain ⟨p, hp, rfl⟩ := List.mem_map.mp hd
    exact ⟨p, rfl, hp⟩⟩
  have ei := items_dD vs
  subst hg
  unfold F_are_values runF
  simp only [m_are_values, List.map_cons, List.map_nil, List.replicate, List.length_cons, List.length_nil, List.append_nil, List.nil_append, List.cons_append]
  simp [ei, e1, e2, hg2, e_ret, e_lift, e_bnd, e_var, e_C, e_op, e_un, e_nil, e_cons, e_fn, e_test, e_notT, e_andT, e_orT, e_notV, e_andV, e_orV, e_if, e_tt, e_ff, e_chain, e_tup, e_lst, e_next, e_seq, e_nx, e_rt, e_drop, e_mret, e_retN, e_set, e_asg, e_par, e_par3, e_par2N, e_setD, e_setM, e_own, e_isi, e_tupT, e_nilT, e_consT, e_lstN, e_dic0, e_fnN, e_callN, e_fzN, e_seqO, e_itA, e_for, e_attr, e_raise, e_make, e_part, e_slice, e_ixM, e_setIx, e_append, e_popAt, e_lenM, e_fz, e_call, e_prop, e_getM, e_putM, e_getD, e_ixD, e_inD, e_methS0, e_fldSet, e_callO, e_callS, e_seqN, e_opN, vv_gt, vv_ge, vv_geS, vv_lt, vv_le, vv_add, vv_addL, vv_addT, vv_sub, vv_neg, vv_abs, vv_int, vv_intb, vv_lenL, vv_lenT, vv_lenS, vv_ixL, vv_ixT, vv_b, vv_tup, vv_lst, vv_tupL, vv_tupT, vv_listN, vv_seqL, vv_seqT, vv_asc, vv_alpha, vv_lower, vv_strS, vv_moL, vv_moD, vv_tyI, vv_tyB, vv_tyS, vv_tyL, vv_tyT, vv_tyD, vv_tyN, vv_min, vv_max, vv_keys, vv_asI, vv_k1, vv_k2, vv_eq, vv_ne, vv_eqI, vv_ii, vv_ib, vv_bi, vv_bb, vv_tt, vv_ss, vv_dd, ixN, lstAt, dicAt, atI_0, atI_1, atI_2, outs, getMs, putM, putMs, ownB, isM, isS, okF, okI, sizeLine]
def evP (vs : Prs) (ps : Prs) : Int := ev (cnt vs) ps
structure Small (ps : Prs) : Prop where
  b : ∀ p ∈ ps, p.2.natAbs < 2 ^ 100
theorem call_ok {vs ps : Prs} {a : Int} (hv : Vals vs) (hp : Good ps) (hb : Small ps) (hs : ∀ x ∈ nms ps, x ∈ nms vs) : F_call [] [SumD ps a, .dic (dD vs)] = some (.ok (.int (a + evP vs ps)) []) := by
  have e0 := are_values_ok hv hs
  have loop := fun ds g => @forL_inv (tupT 2 (consT (setD 3) (consT (setD 4) nilT))) (mSet 2 (mOp addF (mVar 2) (mOp mulF (mVar 4) (mIxD (mVar 1) (mVar 3)))))
    (fun r g => ∃ x y k ts, g = [Sl.d (SumD ps a), .d (.dic (dD vs)), .d (.int k), x, y] ∧ (x = .no ∨ ∃ d, x = .d d) ∧ (y = .no ∨ ∃ d, y = .d d) ∧ r = psD ts ∧ (∀ p ∈ ts, p ∈ ps) ∧ k + evP vs ts = a + evP vs ps)
    (fun d r g ⟨x, y, k, ts, hg, hx, hy, hr, hm, hk⟩ => by
      cases ts with
      | nil => cases hr
      | cons p ts =>
        cases hr
        have hpm := hm p List.mem_cons_self
        have e1 := val_dD hv.n p.1
        rw [if_pos (hs _ (List.mem_map_of_mem hpm))] at e1
        have em : mulF (.int p.2) (.int (cnt vs p.1)) = some (.int (p.2 * cnt vs p.1)) := mulF_ok (by have := hb.b p hpm; omega) (by have := hv.b p.1; omega)
        refine ⟨[Sl.d (SumD ps a), .d (.dic (dD vs)), .d (.int k), .d (.str p.1), .d (.int p.2)], [Sl.d (SumD ps a), .d (.dic (dD vs)), .d (.int (k + p.2 * cnt vs p.1)), .d (.str p.1), .d (.int p.2)], ?_, ?_, _, _, _, ts, rfl, .inr ⟨_, rfl⟩, .inr ⟨_, rfl⟩, rfl, fun q hq => hm q (List.mem_cons_of_mem _ hq), ?_⟩
        · subst hg
          rcases hx with rfl | ⟨d, rfl⟩ <;> rcases hy with rfl | ⟨d', rfl⟩ <;> simp [pD, e_ret, e_lift, e_bnd, e_var, e_C, e_op, e_un, e_nil, e_cons, e_fn, e_test, e_notT, e_andT, e_orT, e_notV, e_andV, e_orV, e_if, e_tt, e_ff, e_chain, e_tup, e_lst, e_next, e_seq, e_nx, e_rt, e_drop, e_mret, e_retN, e_set, e_asg, e_par, e_par3, e_par2N, e_setD, e_setM, e_own, e_isi, e_tupT, e_nilT, e_consT, e_lstN, e_dic0, e_fnN, e_callN, e_fzN, e_seqO, e_itA, e_for, e_attr, e_raise, e_make, e_part, e_slice, e_ixM, e_setIx, e_append, e_popAt, e_lenM, e_fz, e_call, e_prop, e_getM, e_putM, e_getD, e_ixD, e_inD, e_methS0, e_fldSet, e_callO, e_callS, e_seqN, e_opN, vv_gt, vv_ge, vv_geS, vv_lt, vv_le, vv_add, vv_addL, vv_addT, vv_sub, vv_neg, vv_abs, vv_int, vv_intb, vv_lenL, vv_lenT, vv_lenS, vv_ixL, vv_ixT, vv_b, vv_tup, vv_lst, vv_tupL, vv_tupT, vv_listN, vv_seqL, vv_seqT, vv_asc, vv_alpha, vv_lower, vv_strS, vv_moL, vv_moD, vv_tyI, vv_tyB, vv_tyS, vv_tyL, vv_tyT, vv_tyD, vv_tyN, vv_min, vv_max, vv_keys, vv_asI, vv_k1, vv_k2, vv_eq, vv_ne, vv_eqI, vv_ii, vv_ib, vv_bi, vv_bb, vv_tt, vv_ss, vv_dd, ixN, lstAt, dicAt, atI_0, atI_1, atI_2, outs, getMs, putM, putMs, ownB, isM, isS, okF, okI, sizeLine]
        · simp [e1, em, e_ret, e_lift, e_bnd, e_var, e_C, e_op, e_un, e_nil, e_cons, e_fn, e_test, e_notT, e_andT, e_orT, e_notV, e_andV, e_orV, e_if, e_tt, e_ff, e_chain, e_tup, e_lst, e_next, e_seq, e_nx, e_rt, e_drop, e_mret, e_retN, e_set, e_asg, e_par, e_par3, e_par2N, e_setD, e_setM, e_own, e_isi, e_tupT, e_nilT, e_consT, e_lstN, e_dic0, e_fnN, e_callN, e_fzN, e_seqO, e_itA, e_for, e_attr, e_raise, e_make, e_part, e_slice, e_ixM, e_setIx, e_append, e_popAt, e_lenM, e_fz, e_call, e_prop, e_getM, e_putM, e_getD, e_ixD, e_inD, e_methS0, e_fldSet, e_callO, e_callS, e_seqN, e_opN, vv_gt, vv_ge, vv_geS, vv_lt, vv_le, vv_add, vv_addL, vv_addT, vv_sub, vv_neg, vv_abs, vv_int, vv_intb, vv_lenL, vv_lenT, vv_lenS, vv_ixL, vv_ixT, vv_b, vv_tup, vv_lst, vv_tupL, vv_tupT, vv_listN, vv_seqL, vv_seqT, vv_asc, vv_alpha, vv_lower, vv_strS, vv_moL, vv_moD, vv_tyI, vv_tyB, vv_tyS, vv_tyL, vv_tyT, vv_tyD, vv_tyN, vv_min, vv_max, vv_keys, vv_asI, vv_k1, vv_k2, vv_eq, vv_ne, vv_eqI, vv_ii, vv_ib, vv_bi, vv_bb, vv_tt, vv_ss, vv_dd, ixN, lstAt, dicAt, atI_0, atI_1, atI_2, outs, getMs, putM, putMs, ownB, isM, isS, okF, okI, sizeLine]
        · unfold evP at hk ⊢
          simp only [ev] at hk
          omega) ds g
  obtain ⟨g', e, x, y, k, ts, hg, hx, hy, hr, _, hk⟩ := loop (psD ps) [Sl.d (SumD ps a), .d (.dic (dD vs)), .d (.int a), .no, .no] ⟨_, _, a, ps, rfl, .inl rfl, .inl rfl, rfl, fun _ h => h, rfl⟩
  have ht0 : ts = [] := by cases ts with
    | nil => rfl
    | cons p r => cases hr
  subst ht0
  have hk' : k = a + evP vs ps := by rw [← hk]; show k = k + 0; omega
  unfold F_call runF
  simp only [m_call, List.map_cons, List.map_nil, List.replicate, List.length_cons, List.length_nil, List.append_nil, List.nil_append, List.cons_append]
  unfold SumD at *
  simp [e, e0, hg, hk', parts_g, number_g, l1, l2, l3, List.lookup, e_ret, e_lift, e_bnd, e_var, e_C, e_op, e_un, e_nil, e_cons, e_fn, e_test, e_notT, e_andT, e_orT, e_notV, e_andV, e_orV, e_if, e_tt, e_ff, e_chain, e_tup, e_lst, e_next, e_seq, e_nx, e_rt, e_drop, e_mret, e_retN, e_set, e_asg, e_par, e_par3, e_par2N, e_setD, e_setM, e_own, e_isi, e_tupT, e_nilT, e_consT, e_lstN, e_dic0, e_fnN, e_callN, e_fzN, e_seqO, e_itA, e_for, e_attr, e_raise, e_make, e_part, e_slice, e_ixM, e_setIx, e_append, e_popAt, e_lenM, e_fz, e_call, e_prop, e_getM, e_putM, e_getD, e_ixD, e_inD, e_methS0, e_fldSet, e_callO, e_callS, e_seqN, e_opN, vv_gt, vv_ge, vv_geS, vv_lt, vv_le, vv_add, vv_addL, vv_addT, vv_sub, vv_neg, vv_abs, vv_int, vv_intb, vv_lenL, vv_lenT, vv_lenS, vv_ixL, vv_ixT, vv_b, vv_tup, vv_lst, vv_tupL, vv_tupT, vv_listN, vv_seqL, vv_seqT, vv_asc, vv_alpha, vv_lower, vv_strS, vv_moL, vv_moD, vv_tyI, vv_tyB, vv_tyS, vv_tyL, vv_tyT, vv_tyD, vv_tyN, vv_min, vv_max, vv_keys, vv_asI, vv_k1, vv_k2, vv_eq, vv_ne, vv_eqI, vv_ii, vv_ib, vv_bi, vv_bb, vv_tt, vv_ss, vv_dd, ixN, lstAt, dicAt, atI_0, atI_1, atI_2, outs, getMs, putM, putMs, ownB, isM, isS, okF, okI, sizeLine]
/-! ### the operators -/
theorem isS {ps : Prs} {a : Int} : isoB "Sum" ["Sum"] (SumD ps a) = some true := by
  unfold SumD isoB
  simp
theorem isI {i : Int} : isoB "Sum" ["Sum"] (.int i) = some false := rfl
theorem add_ss {ps qs : Prs} {a b : Int} (hp : Good ps) (hq : Good qs) (hl : ps.length + qs.length < 64) (hb : b.natAbs < 2 ^ 100) (hk : Small qs) : F_add [] [SumD ps a, SumD qs b] = some (.ok (SumD (NF (ps ++ scl 1 qs)) (a + 1 * b)) []) := by
  have e := added_ok (a := a) (t := 1) hp hq hl (by decide) hb hk.b
  have i1 := isS (ps := qs) (a := b)
  unfold F_add runF
  generalize SumD ps a = A at *
  generalize SumD qs b = B at *
  simp [m_add, e, i1, e_ret, e_lift, e_bnd, e_var, e_C, e_op, e_un, e_nil, e_cons, e_fn, e_test, e_notT, e_andT, e_orT, e_notV, e_andV, e_orV, e_if, e_tt, e_ff, e_chain, e_tup, e_lst, e_next, e_seq, e_nx, e_rt, e_drop, e_mret, e_retN, e_set, e_asg, e_par, e_par3, e_par2N, e_setD, e_setM, e_own, e_isi, e_tupT, e_nilT, e_consT, e_lstN, e_dic0, e_fnN, e_callN, e_fzN, e_seqO, e_itA, e_for, e_attr, e_raise, e_make, e_part, e_slice, e_ixM, e_setIx, e_append, e_popAt, e_lenM, e_fz, e_call, e_prop, e_getM, e_putM, e_getD, e_ixD, e_inD, e_methS0, e_fldSet, e_callO, e_callS, e_seqN, e_opN, vv_gt, vv_ge, vv_geS, vv_lt, vv_le, vv_add, vv_addL, vv_addT, vv_sub, vv_neg, vv_abs, vv_int, vv_intb, vv_lenL, vv_lenT, vv_lenS, vv_ixL, vv_ixT, vv_b, vv_tup, vv_lst, vv_tupL, vv_tupT, vv_listN, vv_seqL, vv_seqT, vv_asc, vv_alpha, vv_lower, vv_strS, vv_moL, vv_moD, vv_tyI, vv_tyB, vv_tyS, vv_tyL, vv_tyT, vv_tyD, vv_tyN, vv_min, vv_max, vv_keys, vv_asI, vv_k1, vv_k2, vv_eq, vv_ne, vv_eqI, vv_ii, vv_ib, vv_bi, vv_bb, vv_tt, vv_ss, vv_dd, ixN, lstAt, dicAt, atI_0, atI_1, atI_2, outs, getMs, putM, putMs, ownB, isM, isS, okF, okI, sizeLine]
theorem add_si {ps : Prs} {a i : Int} (hp : Good ps) : F_add [] [SumD ps a, .int i] = some (.ok (SumD ps (a + i)) []) := by
  have e := init_ok (k := a + i) hp
  have e2 := is_integer_ok i
  unfold F_add runF
  unfold SumD at *
  simp [m_add, e, e2, isI, dd2, parts_g, number_g, l1, l2, l3, List.lookup, e_ret, e_lift, e_bnd, e_var, e_C, e_op, e_un, e_nil, e_cons, e_fn, e_test, e_notT, e_andT, e_orT, e_notV, e_andV, e_orV, e_if, e_tt, e_ff, e_chain, e_tup, e_lst, e_next, e_seq, e_nx, e_rt, e_drop, e_mret, e_retN, e_set, e_asg, e_par, e_par3, e_par2N, e_setD, e_setM, e_own, e_isi, e_tupT, e_nilT, e_consT, e_lstN, e_dic0, e_fnN, e_callN, e_fzN, e_seqO, e_itA, e_for, e_attr, e_raise, e_make, e_part, e_slice, e_ixM, e_setIx, e_append, e_popAt, e_lenM, e_fz, e_call, e_prop, e_getM, e_putM, e_getD, e_ixD, e_inD, e_methS0, e_fldSet, e_callO, e_callS, e_seqN, e_opN, vv_gt, vv_ge, vv_geS, vv_lt, vv_le, vv_add, vv_addL, vv_addT, vv_sub, vv_neg, vv_abs, vv_int, vv_intb, vv_lenL, vv_lenT, vv_lenS, vv_ixL, vv_ixT, vv_b, vv_tup, vv_lst, vv_tupL, vv_tupT, vv_listN, vv_seqL, vv_seqT, vv_asc, vv_alpha, vv_lower, vv_strS, vv_moL, vv_moD, vv_tyI, vv_tyB, vv_tyS, vv_tyL, vv_tyT, vv_tyD, vv_tyN, vv_min, vv_max, vv_keys, vv_asI, vv_k1, vv_k2, vv_eq, vv_ne, vv_eqI, vv_ii, vv_ib, vv_bi, vv_bb, vv_tt, vv_ss, vv_dd, ixN, lstAt, dicAt, atI_0, atI_1, atI_2, outs, getMs, putM, putMs, ownB, isM, isS, okF, okI, sizeLine]
theorem radd_ok {ps : Prs} {a i : Int} (hp : Good ps) : F_radd [] [SumD ps a, .int i] = some (.ok (SumD ps (i + a)) []) := by
  have e := init_ok (k := i + a) hp
  have e2 := is_integer_ok i
  unfold F_radd runF
  unfold SumD at *
  simp [m_radd, e, e2, isI, dd2, parts_g, number_g, l1, l2, l3, List.lookup, e_ret, e_lift, e_bnd, e_var, e_C, e_op, e_un, e_nil, e_cons, e_fn, e_test, e_notT, e_andT, e_orT, e_notV, e_andV, e_orV, e_if, e_tt, e_ff, e_chain, e_tup, e_lst, e_next, e_seq, e_nx, e_rt, e_drop, e_mret, e_retN, e_set, e_asg, e_par, e_par3, e_par2N, e_setD, e_setM, e_own, e_isi, e_tupT, e_nilT, e_consT, e_lstN, e_dic0, e_fnN, e_callN, e_fzN, e_seqO, e_itA, e_for, e_attr, e_raise, e_make, e_part, e_slice, e_ixM, e_setIx, e_append, e_popAt, e_lenM, e_fz, e_call, e_prop, e_getM, e_putM, e_getD, e_ixD, e_inD, e_methS0, e_fldSet, e_callO, e_callS, e_seqN, e_opN, vv_gt, vv_ge, vv_geS, vv_lt, vv_le, vv_add, vv_addL, vv_addT, vv_sub, vv_neg, vv_abs, vv_int, vv_intb, vv_lenL, vv_lenT, vv_lenS, vv_ixL, vv_ixT, vv_b, vv_tup, vv_lst, vv_tupL, vv_tupT, vv_listN, vv_seqL, vv_seqT, vv_asc, vv_alpha, vv_lower, vv_strS, vv_moL, vv_moD, vv_tyI, vv_tyB, vv_tyS, vv_tyL, vv_tyT, vv_tyD, vv_tyN, vv_min, vv_max, vv_keys, vv_asI, vv_k1, vv_k2, vv_eq, vv_ne, vv_eqI, vv_ii, vv_ib, vv_bi, vv_bb, vv_tt, vv_ss, vv_dd, ixN, lstAt, dicAt, atI_0, atI_1, atI_2, outs, getMs, putM, putMs, ownB, isM, isS, okF, okI, sizeLine]
theorem sub_ss {ps qs : Prs} {a b : Int} (hp : Good ps) (hq : Good qs) (hl : ps.length + qs.length < 64) (hb : b.natAbs < 2 ^ 100) (hk : Small qs) : F_sub [] [SumD ps a, SumD qs b] = some (.ok (SumD (NF (ps ++ scl (-1) qs)) (a + (-1) * b)) []) := by
  have e := added_ok (a := a) (t := -1) hp hq hl (by decide) hb hk.b
  have i1 := isS (ps := qs) (a := b)
  unfold F_sub runF
  generalize SumD ps a = A at *
  generalize SumD qs b = B at *
  simp only [m_sub, List.map_cons, List.map_nil, List.replicate, List.length_cons, List.length_nil, List.append_nil, List.nil_append, List.cons_append]
  simp [e, i1, e_ret, e_lift, e_bnd, e_var, e_C, e_op, e_un, e_nil, e_cons, e_fn, e_test, e_notT, e_andT, e_orT, e_notV, e_andV, e_orV, e_if, e_tt, e_ff, e_chain, e_tup, e_lst, e_next, e_seq, e_nx, e_rt, e_drop, e_mret, e_retN, e_set, e_asg, e_par, e_par3, e_par2N, e_setD, e_setM, e_own, e_isi, e_tupT, e_nilT, e_consT, e_lstN, e_dic0, e_fnN, e_callN, e_fzN, e_seqO, e_itA, e_for, e_attr, e_raise, e_make, e_part, e_slice, e_ixM, e_setIx, e_append, e_popAt, e_lenM, e_fz, e_call, e_prop, e_getM, e_putM, e_getD, e_ixD, e_inD, e_methS0, e_fldSet, e_callO, e_callS, e_seqN, e_opN, vv_gt, vv_ge, vv_geS, vv_lt, vv_le, vv_add, vv_addL, vv_addT, vv_sub, vv_neg, vv_abs, vv_int, vv_intb, vv_lenL, vv_lenT, vv_lenS, vv_ixL, vv_ixT, vv_b, vv_tup, vv_lst, vv_tupL, vv_tupT, vv_listN, vv_seqL, vv_seqT, vv_asc, vv_alpha, vv_lower, vv_strS, vv_moL, vv_moD, vv_tyI, vv_tyB, vv_tyS, vv_tyL, vv_tyT, vv_tyD, vv_tyN, vv_min, vv_max, vv_keys, vv_asI, vv_k1, vv_k2, vv_eq, vv_ne, vv_eqI, vv_ii, vv_ib, vv_bi, vv_bb, vv_tt, vv_ss, vv_dd, ixN, lstAt, dicAt, atI_0, atI_1, atI_2, outs, getMs, putM, putMs, ownB, isM, isS, okF, okI, sizeLine]
theorem sub_si {ps : Prs} {a i : Int} (hp : Good ps) : F_sub [] [SumD ps a, .int i] = some (.ok (SumD ps (a - i)) []) := by
  have e := init_ok (k := a - i) hp
  have e2 := is_integer_ok i
  unfold F_sub runF
  unfold SumD at *
  simp [m_sub, e, e2, isI, dd2, parts_g, number_g, l1, l2, l3, List.lookup, e_ret, e_lift, e_bnd, e_var, e_C, e_op, e_un, e_nil, e_cons, e_fn, e_test, e_notT, e_andT, e_orT, e_notV, e_andV, e_orV, e_if, e_tt, e_ff, e_chain, e_tup, e_lst, e_next, e_seq, e_nx, e_rt, e_drop, e_mret, e_retN, e_set, e_asg, e_par, e_par3, e_par2N, e_setD, e_setM, e_own, e_isi, e_tupT, e_nilT, e_consT, e_lstN, e_dic0, e_fnN, e_callN, e_fzN, e_seqO, e_itA, e_for, e_attr, e_raise, e_make, e_part, e_slice, e_ixM, e_setIx, e_append, e_popAt, e_lenM, e_fz, e_call, e_prop, e_getM, e_putM, e_getD, e_ixD, e_inD, e_methS0, e_fldSet, e_callO, e_callS, e_seqN, e_opN, vv_gt, vv_ge, vv_geS, vv_lt, vv_le, vv_add, vv_addL, vv_addT, vv_sub, vv_neg, vv_abs, vv_int, vv_intb, vv_lenL, vv_lenT, vv_lenS, vv_ixL, vv_ixT, vv_b, vv_tup, vv_lst, vv_tupL, vv_tupT, vv_listN, vv_seqL, vv_seqT, vv_asc, vv_alpha, vv_lower, vv_strS, vv_moL, vv_moD, vv_tyI, vv_tyB, vv_tyS, vv_tyL, vv_tyT, vv_tyD, vv_tyN, vv_min, vv_max, vv_keys, vv_asI, vv_k1, vv_k2, vv_eq, vv_ne, vv_eqI, vv_ii, vv_ib, vv_bi, vv_bb, vv_tt, vv_ss, vv_dd, ixN, lstAt, dicAt, atI_0, atI_1, atI_2, outs, getMs, putM, putMs, ownB, isM, isS, okF, okI, sizeLine]
theorem neg_ok {ps : Prs} {a : Int} (hp : Good ps) (ha : a.natAbs < 2 ^ 100) (hk : Small ps) : F_neg [] [SumD ps a] = some (.ok (SumD (NF (scl (-1) ps)) (-1 * a)) []) := by
  have e := times_ok (t := -1) hp (by decide) ha hk.b
  unfold F_neg runF
  generalize SumD ps a = A at *
  simp [m_neg, e, e_ret, e_lift, e_bnd, e_var, e_C, e_op, e_un, e_nil, e_cons, e_fn, e_test, e_notT, e_andT, e_orT, e_notV, e_andV, e_orV, e_if, e_tt, e_ff, e_chain, e_tup, e_lst, e_next, e_seq, e_nx, e_rt, e_drop, e_mret, e_retN, e_set, e_asg, e_par, e_par3, e_par2N, e_setD, e_setM, e_own, e_isi, e_tupT, e_nilT, e_consT, e_lstN, e_dic0, e_fnN, e_callN, e_fzN, e_seqO, e_itA, e_for, e_attr, e_raise, e_make, e_part, e_slice, e_ixM, e_setIx, e_append, e_popAt, e_lenM, e_fz, e_call, e_prop, e_getM, e_putM, e_getD, e_ixD, e_inD, e_methS0, e_fldSet, e_callO, e_callS, e_seqN, e_opN, vv_gt, vv_ge, vv_geS, vv_lt, vv_le, vv_add, vv_addL, vv_addT, vv_sub, vv_neg, vv_abs, vv_int, vv_intb, vv_lenL, vv_lenT, vv_lenS, vv_ixL, vv_ixT, vv_b, vv_tup, vv_lst, vv_tupL, vv_tupT, vv_listN, vv_seqL, vv_seqT, vv_asc, vv_alpha, vv_lower, vv_strS, vv_moL, vv_moD, vv_tyI, vv_tyB, vv_tyS, vv_tyL, vv_tyT, vv_tyD, vv_tyN, vv_min, vv_max, vv_keys, vv_asI, vv_k1, vv_k2, vv_eq, vv_ne, vv_eqI, vv_ii, vv_ib, vv_bi, vv_bb, vv_tt, vv_ss, vv_dd, ixN, lstAt, dicAt, atI_0, atI_1, atI_2, outs, getMs, putM, putMs, ownB, isM, isS, okF, okI, sizeLine]
theorem mul_ok {ps : Prs} {a i : Int} (hp : Good ps) (hi : i.natAbs < 2 ^ 100) (ha : a.natAbs < 2 ^ 100) (hk : Small ps) : F_mul [] [SumD ps a, .int i] = some (.ok (SumD (NF (scl i ps)) (i * a)) []) := by
  have e := times_ok hp hi ha hk.b
  have e2 := is_integer_ok i
  unfold F_mul runF
  generalize SumD ps a = A at *
  simp [m_mul, e, e2, e_ret, e_lift, e_bnd, e_var, e_C, e_op, e_un, e_nil, e_cons, e_fn, e_test, e_notT, e_andT, e_orT, e_notV, e_andV, e_orV, e_if, e_tt, e_ff, e_chain, e_tup, e_lst, e_next, e_seq, e_nx, e_rt, e_drop, e_mret, e_retN, e_set, e_asg, e_par, e_par3, e_par2N, e_setD, e_setM, e_own, e_isi, e_tupT, e_nilT, e_consT, e_lstN, e_dic0, e_fnN, e_callN, e_fzN, e_seqO, e_itA, e_for, e_attr, e_raise, e_make, e_part, e_slice, e_ixM, e_setIx, e_append, e_popAt, e_lenM, e_fz, e_call, e_prop, e_getM, e_putM, e_getD, e_ixD, e_inD, e_methS0, e_fldSet, e_callO, e_callS, e_seqN, e_opN, vv_gt, vv_ge, vv_geS, vv_lt, vv_le, vv_add, vv_addL, vv_addT, vv_sub, vv_neg, vv_abs, vv_int, vv_intb, vv_lenL, vv_lenT, vv_lenS, vv_ixL, vv_ixT, vv_b, vv_tup, vv_lst, vv_tupL, vv_tupT, vv_listN, vv_seqL, vv_seqT, vv_asc, vv_alpha, vv_lower, vv_strS, vv_moL, vv_moD, vv_tyI, vv_tyB, vv_tyS, vv_tyL, vv_tyT, vv_tyD, vv_tyN, vv_min, vv_max, vv_keys, vv_asI, vv_k1, vv_k2, vv_eq, vv_ne, vv_eqI, vv_ii, vv_ib, vv_bi, vv_bb, vv_tt, vv_ss, vv_dd, ixN, lstAt, dicAt, atI_0, atI_1, atI_2, outs, getMs, putM, putMs, ownB, isM, isS, okF, okI, sizeLine]
theorem rmul_ok {ps : Prs} {a i : Int} (hp : Good ps) (hi : i.natAbs < 2 ^ 100) (ha : a.natAbs < 2 ^ 100) (hk : Small ps) : F_rmul [] [SumD ps a, .int i] = some (.ok (SumD (NF (scl i ps)) (i * a)) []) := by
  have e := times_ok hp hi ha hk.b
  have e2 := is_integer_ok i
  unfold F_rmul runF
  generalize SumD ps a = A at *
  simp [m_rmul, e, e2, e_ret, e_lift, e_bnd, e_var, e_C, e_op, e_un, e_nil, e_cons, e_fn, e_test, e_notT, e_andT, e_orT, e_notV, e_andV, e_orV, e_if, e_tt, e_ff, e_chain, e_tup, e_lst, e_next, e_seq, e_nx, e_rt, e_drop, e_mret, e_retN, e_set, e_asg, e_par, e_par3, e_par2N, e_setD, e_setM, e_own, e_isi, e_tupT, e_nilT, e_consT, e_lstN, e_dic0, e_fnN, e_callN, e_fzN, e_seqO, e_itA, e_for, e_attr, e_raise, e_make, e_part, e_slice, e_ixM, e_setIx, e_append, e_popAt, e_lenM, e_fz, e_call, e_prop, e_getM, e_putM, e_getD, e_ixD, e_inD, e_methS0, e_fldSet, e_callO, e_callS, e_seqN, e_opN, vv_gt, vv_ge, vv_geS, vv_lt, vv_le, vv_add, vv_addL, vv_addT, vv_sub, vv_neg, vv_abs, vv_int, vv_intb, vv_lenL, vv_lenT, vv_lenS, vv_ixL, vv_ixT, vv_b, vv_tup, vv_lst, vv_tupL, vv_tupT, vv_listN, vv_seqL, vv_seqT, vv_asc, vv_alpha, vv_lower, vv_strS, vv_moL, vv_moD, vv_tyI, vv_tyB, vv_tyS, vv_tyL, vv_tyT, vv_tyD, vv_tyN, vv_min, vv_max, vv_keys, vv_asI, vv_k1, vv_k2, vv_eq, vv_ne, vv_eqI, vv_ii, vv_ib, vv_bi, vv_bb, vv_tt, vv_ss, vv_dd, ixN, lstAt, dicAt, atI_0, atI_1, atI_2, outs, getMs, putM, putMs, ownB, isM, isS, okF, okI, sizeLine]
theorem own_obj {F FR : FM} {f : Dat → Dat → Option Dat} {ps qs : Prs} {a b : Int} {z : Dat} (h : F [] [SumD ps a, SumD qs b] = some (.ok z [])) : opOwn "Sum" F FR f (SumD ps a) (SumD qs b) = some z := by
  unfold SumD at *
  simp [opOwn, h, okV]
theorem own_int {F FR : FM} {f : Dat → Dat → Option Dat} {ps : Prs} {a i : Int} {z : Dat} (h : F [] [SumD ps a, .int i] = some (.ok z [])) : opOwn "Sum" F FR f (SumD ps a) (.int i) = some z := by
  unfold SumD at *
  simp [opOwn, h, okV]
theorem own_rint {F FR : FM} {f : Dat → Dat → Option Dat} {ps : Prs} {a i : Int} {z : Dat} (h : FR [] [SumD ps a, .int i] = some (.ok z [])) : opOwn "Sum" F FR f (.int i) (SumD ps a) = some z := by
  unfold SumD at *
  simp [opOwn, h, okV]
theorem rsub_ok {ps : Prs} {a i : Int} (hp : Good ps) (ha : a.natAbs < 2 ^ 100) (hk : Small ps) : F_rsub [] [SumD ps a, .int i] = some (.ok (SumD (NF (scl (-1) ps)) (-1 * a + i)) []) := by
  have e := times_ok (t := -1) hp (by decide) ha hk.b
  have e2 := is_integer_ok i
  have hg : Good (NF (scl (-1) ps)) := NF_good (by rw [nms_scl]; exact hp.nm) (by simpa [scl] using hp.l)
  have e3 := own_int (FR := F_radd) (f := fun _ _ => none) (add_si (a := -1 * a) (i := i) hg)
  unfold F_rsub runF
  generalize SumD ps a = A at *
  generalize SumD (NF (scl (-1) ps)) (-1 * a) = B at *
  simp only [m_rsub, List.map_cons, List.map_nil, List.replicate, List.length_cons, List.length_nil, List.append_nil, List.nil_append, List.cons_append]
  simp [e, e2, e3, e_ret, e_lift, e_bnd, e_var, e_C, e_op, e_un, e_nil, e_cons, e_fn, e_test, e_notT, e_andT, e_orT, e_notV, e_andV, e_orV, e_if, e_tt, e_ff, e_chain, e_tup, e_lst, e_next, e_seq, e_nx, e_rt, e_drop, e_mret, e_retN, e_set, e_asg, e_par, e_par3, e_par2N, e_setD, e_setM, e_own, e_isi, e_tupT, e_nilT, e_consT, e_lstN, e_dic0, e_fnN, e_callN, e_fzN, e_seqO, e_itA, e_for, e_attr, e_raise, e_make, e_part, e_slice, e_ixM, e_setIx, e_append, e_popAt, e_lenM, e_fz, e_call, e_prop, e_getM, e_putM, e_getD, e_ixD, e_inD, e_methS0, e_fldSet, e_callO, e_callS, e_seqN, e_opN, vv_gt, vv_ge, vv_geS, vv_lt, vv_le, vv_add, vv_addL, vv_addT, vv_sub, vv_neg, vv_abs, vv_int, vv_intb, vv_lenL, vv_lenT, vv_lenS, vv_ixL, vv_ixT, vv_b, vv_tup, vv_lst, vv_tupL, vv_tupT, vv_listN, vv_seqL, vv_seqT, vv_asc, vv_alpha, vv_lower, vv_strS, vv_moL, vv_moD, vv_tyI, vv_tyB, vv_tyS, vv_tyL, vv_tyT, vv_tyD, vv_tyN, vv_min, vv_max, vv_keys, vv_asI, vv_k1, vv_k2, vv_eq, vv_ne, vv_eqI, vv_ii, vv_ib, vv_bi, vv_bb, vv_tt, vv_ss, vv_dd, ixN, lstAt, dicAt, atI_0, atI_1, atI_2, outs, getMs, putM, putMs, ownB, isM, isS, okF, okI, sizeLine]
/-! ### equal, shown -/
theorem asc_ok {x : Str} (h : ascT x = true) : PyData.strOk x = true := by
  unfold PyData.strOk
  unfold ascT at h
  rw [← Array.all_toList]
  rw [List.all_eq_true] at h ⊢
  intro c hc
  have := h c hc
  simp at this ⊢
  omega
theorem plain_psD : ∀ ps : Prs, DL.plainS (psD ps) = true
  | [] => rfl
  | p :: r => by
    show (DL.plain (pD p) && DL.plainS (psD r)) = true
    rw [plain_psD r]
    rfl
theorem lay_psD : ∀ {ps : Prs}, (∀ x ∈ nms ps, ascT x = true) → PyData.canLayAll0 (toPs (psD ps)) = true
  | [], _ => by simp [psD, toPs, PyData.canLayAll0]
  | p :: r, h => by
    have ih := lay_psD (ps := r) fun x hx => h x (List.mem_cons_of_mem _ hx)
    have h1 := asc_ok (h p.1 List.mem_cons_self)
    unfold psD at ih
    simp [psD, pD, toPs, toP, PyData.canLayAll0, PyData.canLay0, h1, ih]
theorem dep_psD : ∀ ps : Prs, PyData.depthAll (toPs (psD ps)) ≤ 1
  | [] => by simp [psD, toPs, PyData.depthAll]
  | p :: r => by
    have ih := dep_psD r
    unfold psD at ih
    simp [psD, pD, toPs, toP, PyData.depthAll, PyData.depth]
    omega
theorem eqv_psD : ∀ ps : Prs, PyData.eqvAll (toPs (psD ps)) (toPs (psD ps)) = true
  | [] => by simp [psD, toPs, PyData.eqvAll]
  | p :: r => by
    have ih := eqv_psD r
    unfold psD at ih
    simp [psD, pD, toPs, toP, PyData.eqvAll, PyData.eqv, ih]
theorem eqB_parts {ps : Prs} {s t : Bool} (h : ∀ x ∈ nms ps, ascT x = true) : eqB (.tup s (psD ps)) (.tup t (psD ps)) = some true := by
  have h1 := plain_psD ps
  have h2 := lay_psD h
  have h3 := dep_psD ps
  have h4 := eqv_psD ps
  have h5 : (PyData.tuple (toPs (psD ps))).depth ≤ 64 := by simp only [PyData.depth]; omega
  unfold eqB
  simp [DL.plain, toP, SeqAt.shaped, PyData.canLay0, h1, h2, h4, h5, PyData.eqv]
theorem eqB_str {x : Str} (h : PyData.strOk x = true) : eqB (.str x) (.str x) = some true := by
  unfold eqB
  simp [DL.plain, toP, SeqAt.shaped, PyData.canLay0, h, PyData.eqv, PyData.depth]
theorem eq_ok {ps : Prs} {a : Int} (h : Good ps) : F_eq [] [SumD ps a, SumD ps a] = some (.ok (.bl true) []) := by
  have e1 := eqB_parts (s := true) (t := true) fun x hx => (h.nm x hx).w
  have i1 := isS (ps := ps) (a := a)
  unfold F_eq runF
  unfold SumD at *
  simp [m_eq, e1, i1, parts_g, number_g, l1, l2, l3, List.lookup, e_ret, e_lift, e_bnd, e_var, e_C, e_op, e_un, e_nil, e_cons, e_fn, e_test, e_notT, e_andT, e_orT, e_notV, e_andV, e_orV, e_if, e_tt, e_ff, e_chain, e_tup, e_lst, e_next, e_seq, e_nx, e_rt, e_drop, e_mret, e_retN, e_set, e_asg, e_par, e_par3, e_par2N, e_setD, e_setM, e_own, e_isi, e_tupT, e_nilT, e_consT, e_lstN, e_dic0, e_fnN, e_callN, e_fzN, e_seqO, e_itA, e_for, e_attr, e_raise, e_make, e_part, e_slice, e_ixM, e_setIx, e_append, e_popAt, e_lenM, e_fz, e_call, e_prop, e_getM, e_putM, e_getD, e_ixD, e_inD, e_methS0, e_fldSet, e_callO, e_callS, e_seqN, e_opN, vv_gt, vv_ge, vv_geS, vv_lt, vv_le, vv_add, vv_addL, vv_addT, vv_sub, vv_neg, vv_abs, vv_int, vv_intb, vv_lenL, vv_lenT, vv_lenS, vv_ixL, vv_ixT, vv_b, vv_tup, vv_lst, vv_tupL, vv_tupT, vv_listN, vv_seqL, vv_seqT, vv_asc, vv_alpha, vv_lower, vv_strS, vv_moL, vv_moD, vv_tyI, vv_tyB, vv_tyS, vv_tyL, vv_tyT, vv_tyD, vv_tyN, vv_min, vv_max, vv_keys, vv_asI, vv_k1, vv_k2, vv_eq, vv_ne, vv_eqI, vv_ii, vv_ib, vv_bi, vv_bb, vv_tt, vv_ss, vv_dd, ixN, lstAt, dicAt, atI_0, atI_1, atI_2, outs, getMs, putM, putMs, ownB, isM, isS, okF, okI, sizeLine]
theorem ne_ok {ps : Prs} {a : Int} (h : Good ps) : neOwn "Sum" F_eq neF (SumD ps a) (SumD ps a) = some (.bl false) := by
  have e := eq_ok (a := a) h
  unfold SumD at *
  simp [neOwn, e, okV, asB]
/-- sums as the law has them -/
def LawD (ps : Prs) (k : Int) : Dat := .tup true [.tup true (psD ps), .int k]
theorem law_made_ok {ps : Prs} {k : Int} (h : Good ps) : F_law_made [] [LawD ps k] = some (.ok (SumD ps k) []) := by
  have e := init_ok (k := k) h
  unfold F_law_made runF LawD
  simp [m_law_made, e, dd2, e_ret, e_lift, e_bnd, e_var, e_C, e_op, e_un, e_nil, e_cons, e_fn, e_test, e_notT, e_andT, e_orT, e_notV, e_andV, e_orV, e_if, e_tt, e_ff, e_chain, e_tup, e_lst, e_next, e_seq, e_nx, e_rt, e_drop, e_mret, e_retN, e_set, e_asg, e_par, e_par3, e_par2N, e_setD, e_setM, e_own, e_isi, e_tupT, e_nilT, e_consT, e_lstN, e_dic0, e_fnN, e_callN, e_fzN, e_seqO, e_itA, e_for, e_attr, e_raise, e_make, e_part, e_slice, e_ixM, e_setIx, e_append, e_popAt, e_lenM, e_fz, e_call, e_prop, e_getM, e_putM, e_getD, e_ixD, e_inD, e_methS0, e_fldSet, e_callO, e_callS, e_seqN, e_opN, vv_gt, vv_ge, vv_geS, vv_lt, vv_le, vv_add, vv_addL, vv_addT, vv_sub, vv_neg, vv_abs, vv_int, vv_intb, vv_lenL, vv_lenT, vv_lenS, vv_ixL, vv_ixT, vv_b, vv_tup, vv_lst, vv_tupL, vv_tupT, vv_listN, vv_seqL, vv_seqT, vv_asc, vv_alpha, vv_lower, vv_strS, vv_moL, vv_moD, vv_tyI, vv_tyB, vv_tyS, vv_tyL, vv_tyT, vv_tyD, vv_tyN, vv_min, vv_max, vv_keys, vv_asI, vv_k1, vv_k2, vv_eq, vv_ne, vv_eqI, vv_ii, vv_ib, vv_bi, vv_bb, vv_tt, vv_ss, vv_dd, ixN, lstAt, dicAt, atI_0, atI_1, atI_2, outs, getMs, putM, putMs, ownB, isM, isS, okF, okI, sizeLine]
theorem law_pair_ok {ps : Prs} {k : Int} : F_law_pair [] [SumD ps k] = some (.ok (LawD ps k) []) := by
  unfold F_law_pair runF LawD SumD
  simp [m_law_pair, parts_g, number_g, l1, l2, l3, List.lookup, e_ret, e_lift, e_bnd, e_var, e_C, e_op, e_un, e_nil, e_cons, e_fn, e_test, e_notT, e_andT, e_orT, e_notV, e_andV, e_orV, e_if, e_tt, e_ff, e_chain, e_tup, e_lst, e_next, e_seq, e_nx, e_rt, e_drop, e_mret, e_retN, e_set, e_asg, e_par, e_par3, e_par2N, e_setD, e_setM, e_own, e_isi, e_tupT, e_nilT, e_consT, e_lstN, e_dic0, e_fnN, e_callN, e_fzN, e_seqO, e_itA, e_for, e_attr, e_raise, e_make, e_part, e_slice, e_ixM, e_setIx, e_append, e_popAt, e_lenM, e_fz, e_call, e_prop, e_getM, e_putM, e_getD, e_ixD, e_inD, e_methS0, e_fldSet, e_callO, e_callS, e_seqN, e_opN, vv_gt, vv_ge, vv_geS, vv_lt, vv_le, vv_add, vv_addL, vv_addT, vv_sub, vv_neg, vv_abs, vv_int, vv_intb, vv_lenL, vv_lenT, vv_lenS, vv_ixL, vv_ixT, vv_b, vv_tup, vv_lst, vv_tupL, vv_tupT, vv_listN, vv_seqL, vv_seqT, vv_asc, vv_alpha, vv_lower, vv_strS, vv_moL, vv_moD, vv_tyI, vv_tyB, vv_tyS, vv_tyL, vv_tyT, vv_tyD, vv_tyN, vv_min, vv_max, vv_keys, vv_asI, vv_k1, vv_k2, vv_eq, vv_ne, vv_eqI, vv_ii, vv_ib, vv_bi, vv_bb, vv_tt, vv_ss, vv_dd, ixN, lstAt, dicAt, atI_0, atI_1, atI_2, outs, getMs, putM, putMs, ownB, isM, isS, okF, okI, sizeLine]
end K04

set_option Elab.async false
set_option linter.all false
set_option maxRecDepth 100000
set_option maxHeartbeats 1000000
namespace K04
open PySem PySem.Spec PyProof.Rows L2 GX DL
/-! ### the law's own sums -/
theorem law_sum_ok {d : Dat} {ps : Prs} {k : Int} (hd : seqD d = some (psD ps)) (hk : ∀ p ∈ ps, p.2.natAbs < 2 ^ 100) (hl : ps.length < 64) : F_law_sum [] [d, .int k] = some (.ok (LawD (NF ps) k) []) := by
  have loop := fun ds g => @forL_inv (tupT 2 (consT (setD 3) (consT (setD 4) nilT))) (mPutM 2 (mVar 3) (mOp addF (mGetM 2 (mVar 3) (mC (.int 0))) (mVar 4)))
    (fun r g => ∃ x y rs ts, g = [Sl.d d, .d (.int k), .m false (.dic (dD rs)), x, y] ∧ (x = .no ∨ ∃ d, x = .d d) ∧ (y = .no ∨ ∃ d, y = .d d) ∧ r = psD ts ∧ (nms rs).Nodup ∧ rs.length + ts.length < 64 ∧ addAll rs ts = addAll [] ps)
    (fun d' r g ⟨x, y, rs, ts, hg, hx, hy, hr, hn, hl, ha⟩ => by
      cases ts with
      | nil => cases hr
      | cons p ts =>
        cases hr
        rw [List.length_cons] at hl
        have eg := val_get hn p.1
        have ep := put_dD rs p.1 (cnt rs p.1 + p.2)
        have el : (dD rs).length < 2 ^ 24 := by simp [dD]; omega
        refine ⟨[Sl.d d, .d (.int k), .m false (.dic (dD rs)), .d (.str p.1), .d (.int p.2)], [Sl.d d, .d (.int k), .m false (.dic (dD (addP rs p.1 p.2))), .d (.str p.1), .d (.int p.2)], ?_, ?_, _, _, _, ts, rfl, .inr ⟨_, rfl⟩, .inr ⟨_, rfl⟩, rfl, addP_nodup hn, ?_, ha⟩
        · subst hg
          rcases hx with rfl | ⟨d, rfl⟩ <;> rcases hy with rfl | ⟨d', rfl⟩ <;> simp [pD, e_ret, e_lift, e_bnd, e_var, e_C, e_op, e_un, e_nil, e_cons, e_fn, e_test, e_notT, e_andT, e_orT, e_notV, e_andV, e_orV, e_if, e_tt, e_ff, e_chain, e_tup, e_lst, e_next, e_seq, e_nx, e_rt, e_drop, e_mret, e_retN, e_set, e_asg, e_par, e_par3, e_par2N, e_setD, e_setM, e_own, e_isi, e_tupT, e_nilT, e_consT, e_lstN, e_dic0, e_fnN, e_callN, e_fzN, e_seqO, e_itA, e_for, e_attr, e_raise, e_make, e_part, e_slice, e_ixM, e_setIx, e_append, e_popAt, e_lenM, e_fz, e_call, e_prop, e_getM, e_putM, e_getD, e_ixD, e_inD, e_methS0, e_fldSet, e_callO, e_callS, e_seqN, e_opN, vv_gt, vv_ge, vv_geS, vv_lt, vv_le, vv_add, vv_addL, vv_addT, vv_sub, vv_neg, vv_abs, vv_int, vv_intb, vv_lenL, vv_lenT, vv_lenS, vv_ixL, vv_ixT, vv_b, vv_tup, vv_lst, vv_tupL, vv_tupT, vv_listN, vv_seqL, vv_seqT, vv_asc, vv_alpha, vv_lower, vv_strS, vv_moL, vv_moD, vv_tyI, vv_tyB, vv_tyS, vv_tyL, vv_tyT, vv_tyD, vv_tyN, vv_min, vv_max, vv_keys, vv_asI, vv_k1, vv_k2, vv_eq, vv_ne, vv_eqI, vv_ii, vv_ib, vv_bi, vv_bb, vv_tt, vv_ss, vv_dd, ixN, lstAt, dicAt, atI_0, atI_1, atI_2, outs, getMs, putM, putMs, ownB, isM, isS, okF, okI, sizeLine]
        · unfold addP
          simp [eg, ep, el, e_ret, e_lift, e_bnd, e_var, e_C, e_op, e_un, e_nil, e_cons, e_fn, e_test, e_notT, e_andT, e_orT, e_notV, e_andV, e_orV, e_if, e_tt, e_ff, e_chain, e_tup, e_lst, e_next, e_seq, e_nx, e_rt, e_drop, e_mret, e_retN, e_set, e_asg, e_par, e_par3, e_par2N, e_setD, e_setM, e_own, e_isi, e_tupT, e_nilT, e_consT, e_lstN, e_dic0, e_fnN, e_callN, e_fzN, e_seqO, e_itA, e_for, e_attr, e_raise, e_make, e_part, e_slice, e_ixM, e_setIx, e_append, e_popAt, e_lenM, e_fz, e_call, e_prop, e_getM, e_putM, e_getD, e_ixD, e_inD, e_methS0, e_fldSet, e_callO, e_callS, e_seqN, e_opN, vv_gt, vv_ge, vv_geS, vv_lt, vv_le, vv_add, vv_addL, vv_addT, vv_sub, vv_neg, vv_abs, vv_int, vv_intb, vv_lenL, vv_lenT, vv_lenS, vv_ixL, vv_ixT, vv_b, vv_tup, vv_lst, vv_tupL, vv_tupT, vv_listN, vv_seqL, vv_seqT, vv_asc, vv_alpha, vv_lower, vv_strS, vv_moL, vv_moD, vv_tyI, vv_tyB, vv_tyS, vv_tyL, vv_tyT, vv_tyD, vv_tyN, vv_min, vv_max, vv_keys, vv_asI, vv_k1, vv_k2, vv_eq, vv_ne, vv_eqI, vv_ii, vv_ib, vv_bi, vv_bb, vv_tt, vv_ss, vv_dd, ixN, lstAt, dicAt, atI_0, atI_1, atI_2, outs, getMs, putM, putMs, ownB, isM, isS, okF, okI, sizeLine]
        · have := addP_len (ps := rs) (x := p.1) (k := p.2)
          omega) ds g
  obtain ⟨g', e, x, y, rs, ts, hg, hx, hy, hr, hn, hl', ha⟩ := loop (psD ps) [Sl.d d, .d (.int k), .m false (.dic (dD [])), .no, .no] ⟨_, _, [], ps, rfl, .inl rfl, .inl rfl, rfl, .nil, by simpa using hl, rfl⟩
  have ht0 : ts = [] := by cases ts with
    | nil => rfl
    | cons p r => cases hr
  subst ht0
  have hrs : rs = addAll [] ps := ha
  have en : NF rs = NF ps := NF_ext fun x => by rw [hrs, addAll_cnt (ps := []) List.nodup_nil]; show (0 : Int) + _ = _; omega
  have ln : (nms rs).length < 64 := by simpa [nms] using hl'
  have es := sortSetF_ok ln
  have ef := listF_dD rs
  have e' : forL (tupT 2 (consT (setD 3) (consT (setD 4) nilT))) (mPutM 2 (mVar 3) (mOp addF (mGetM 2 (mVar 3) (mC (.int 0))) (mVar 4))) (psD ps) [Sl.d d, .d (.int k), .m false (.dic []), .no, .no] = some (.ok .nx g') := e
  unfold F_law_sum runF
  simp only [m_law_sum, List.map_cons, List.map_nil, List.replicate, List.length_cons, List.length_nil, List.append_nil, List.nil_append, List.cons_append]
  simp [hd, e', hg, e_ret, e_lift, e_bnd, e_var, e_C, e_op, e_un, e_nil, e_cons, e_fn, e_test, e_notT, e_andT, e_orT, e_notV, e_andV, e_orV, e_if, e_tt, e_ff, e_chain, e_tup, e_lst, e_next, e_seq, e_nx, e_rt, e_drop, e_mret, e_retN, e_set, e_asg, e_par, e_par3, e_par2N, e_setD, e_setM, e_own, e_isi, e_tupT, e_nilT, e_consT, e_lstN, e_dic0, e_fnN, e_callN, e_fzN, e_seqO, e_itA, e_for, e_attr, e_raise, e_make, e_part, e_slice, e_ixM, e_setIx, e_append, e_popAt, e_lenM, e_fz, e_call, e_prop, e_getM, e_putM, e_getD, e_ixD, e_inD, e_methS0, e_fldSet, e_callO, e_callS, e_seqN, e_opN, vv_gt, vv_ge, vv_geS, vv_lt, vv_le, vv_add, vv_addL, vv_addT, vv_sub, vv_neg, vv_abs, vv_int, vv_intb, vv_lenL, vv_lenT, vv_lenS, vv_ixL, vv_ixT, vv_b, vv_tup, vv_lst, vv_tupL, vv_tupT, vv_listN, vv_seqL, vv_seqT, vv_asc, vv_alpha, vv_lower, vv_strS, vv_moL, vv_moD, vv_tyI, vv_tyB, vv_tyS, vv_tyL, vv_tyT, vv_tyD, vv_tyN, vv_min, vv_max, vv_keys, vv_asI, vv_k1, vv_k2, vv_eq, vv_ne, vv_eqI, vv_ii, vv_ib, vv_bi, vv_bb, vv_tt, vv_ss, vv_dd, ixN, lstAt, dicAt, atI_0, atI_1, atI_2, outs, getMs, putM, putMs, ownB, isM, isS, okF, okI, sizeLine]
  rw [mLc_fm (g' := [.d d, .d (.int k), .d (.dic (dD rs)), x, y]) (ds := (sortSet (nms rs)).map Dat.str) (fun d => match d with | .str x => if cnt rs x ≠ 0 then some (pD (x, cnt rs x)) else none | _ => none) ?hi ?hn ?h ?hl]
  case hi => simp [es, ef, e_ret, e_lift, e_bnd, e_var, e_C, e_op, e_un, e_nil, e_cons, e_fn, e_test, e_notT, e_andT, e_orT, e_notV, e_andV, e_orV, e_if, e_tt, e_ff, e_chain, e_tup, e_lst, e_next, e_seq, e_nx, e_rt, e_drop, e_mret, e_retN, e_set, e_asg, e_par, e_par3, e_par2N, e_setD, e_setM, e_own, e_isi, e_tupT, e_nilT, e_consT, e_lstN, e_dic0, e_fnN, e_callN, e_fzN, e_seqO, e_itA, e_for, e_attr, e_raise, e_make, e_part, e_slice, e_ixM, e_setIx, e_append, e_popAt, e_lenM, e_fz, e_call, e_prop, e_getM, e_putM, e_getD, e_ixD, e_inD, e_methS0, e_fldSet, e_callO, e_callS, e_seqN, e_opN, vv_gt, vv_ge, vv_geS, vv_lt, vv_le, vv_add, vv_addL, vv_addT, vv_sub, vv_neg, vv_abs, vv_int, vv_intb, vv_lenL, vv_lenT, vv_lenS, vv_ixL, vv_ixT, vv_b, vv_tup, vv_lst, vv_tupL, vv_tupT, vv_listN, vv_seqL, vv_seqT, vv_asc, vv_alpha, vv_lower, vv_strS, vv_moL, vv_moD, vv_tyI, vv_tyB, vv_tyS, vv_tyL, vv_tyT, vv_tyD, vv_tyN, vv_min, vv_max, vv_keys, vv_asI, vv_k1, vv_k2, vv_eq, vv_ne, vv_eqI, vv_ii, vv_ib, vv_bi, vv_bb, vv_tt, vv_ss, vv_dd, ixN, lstAt, dicAt, atI_0, atI_1, atI_2, outs, getMs, putM, putMs, ownB, isM, isS, okF, okI, sizeLine]
  case hn => rcases hx with rfl | ⟨d, rfl⟩ <;> rfl
  case h =>
    intro d' hd'
    obtain ⟨z, hz, rfl⟩ := List.mem_map.mp hd'
    have hz' := sortSet_mem.mp hz
    have v := val_dD hn z
    rw [if_pos hz'] at v
    refine ⟨[.d d, .d (.int k), .d (.dic (dD rs)), .d (.str z), y], ?_, ?_, ?_⟩
    · rcases hx with rfl | ⟨d, rfl⟩ <;> simp [wipeG, e_ret, e_lift, e_bnd, e_var, e_C, e_op, e_un, e_nil, e_cons, e_fn, e_test, e_notT, e_andT, e_orT, e_notV, e_andV, e_orV, e_if, e_tt, e_ff, e_chain, e_tup, e_lst, e_next, e_seq, e_nx, e_rt, e_drop, e_mret, e_retN, e_set, e_asg, e_par, e_par3, e_par2N, e_setD, e_setM, e_own, e_isi, e_tupT, e_nilT, e_consT, e_lstN, e_dic0, e_fnN, e_callN, e_fzN, e_seqO, e_itA, e_for, e_attr, e_raise, e_make, e_part, e_slice, e_ixM, e_setIx, e_append, e_popAt, e_lenM, e_fz, e_call, e_prop, e_getM, e_putM, e_getD, e_ixD, e_inD, e_methS0, e_fldSet, e_callO, e_callS, e_seqN, e_opN, vv_gt, vv_ge, vv_geS, vv_lt, vv_le, vv_add, vv_addL, vv_addT, vv_sub, vv_neg, vv_abs, vv_int, vv_intb, vv_lenL, vv_lenT, vv_lenS, vv_ixL, vv_ixT, vv_b, vv_tup, vv_lst, vv_tupL, vv_tupT, vv_listN, vv_seqL, vv_seqT, vv_asc, vv_alpha, vv_lower, vv_strS, vv_moL, vv_moD, vv_tyI, vv_tyB, vv_tyS, vv_tyL, vv_tyT, vv_tyD, vv_tyN, vv_min, vv_max, vv_keys, vv_asI, vv_k1, vv_k2, vv_eq, vv_ne, vv_eqI, vv_ii, vv_ib, vv_bi, vv_bb, vv_tt, vv_ss, vv_dd, ixN, lstAt, dicAt, atI_0, atI_1, atI_2, outs, getMs, putM, putMs, ownB, isM, isS, okF, okI, sizeLine]
    · rcases hx with rfl | ⟨d, rfl⟩ <;> simp [wipeG, e_ret, e_lift, e_bnd, e_var, e_C, e_op, e_un, e_nil, e_cons, e_fn, e_test, e_notT, e_andT, e_orT, e_notV, e_andV, e_orV, e_if, e_tt, e_ff, e_chain, e_tup, e_lst, e_next, e_seq, e_nx, e_rt, e_drop, e_mret, e_retN, e_set, e_asg, e_par, e_par3, e_par2N, e_setD, e_setM, e_own, e_isi, e_tupT, e_nilT, e_consT, e_lstN, e_dic0, e_fnN, e_callN, e_fzN, e_seqO, e_itA, e_for, e_attr, e_raise, e_make, e_part, e_slice, e_ixM, e_setIx, e_append, e_popAt, e_lenM, e_fz, e_call, e_prop, e_getM, e_putM, e_getD, e_ixD, e_inD, e_methS0, e_fldSet, e_callO, e_callS, e_seqN, e_opN, vv_gt, vv_ge, vv_geS, vv_lt, vv_le, vv_add, vv_addL, vv_addT, vv_sub, vv_neg, vv_abs, vv_int, vv_intb, vv_lenL, vv_lenT, vv_lenS, vv_ixL, vv_ixT, vv_b, vv_tup, vv_lst, vv_tupL, vv_tupT, vv_listN, vv_seqL, vv_seqT, vv_asc, vv_alpha, vv_lower, vv_strS, vv_moL, vv_moD, vv_tyI, vv_tyB, vv_tyS, vv_tyL, vv_tyT, vv_tyD, vv_tyN, vv_min, vv_max, vv_keys, vv_asI, vv_k1, vv_k2, vv_eq, vv_ne, vv_eqI, vv_ii, vv_ib, vv_bi, vv_bb, vv_tt, vv_ss, vv_dd, ixN, lstAt, dicAt, atI_0, atI_1, atI_2, outs, getMs, putM, putMs, ownB, isM, isS, okF, okI, sizeLine]
    · by_cases c : cnt rs z = 0
      · simp [v, c, e_ret, e_lift, e_bnd, e_var, e_C, e_op, e_un, e_nil, e_cons, e_fn, e_test, e_notT, e_andT, e_orT, e_notV, e_andV, e_orV, e_if, e_tt, e_ff, e_chain, e_tup, e_lst, e_next, e_seq, e_nx, e_rt, e_drop, e_mret, e_retN, e_set, e_asg, e_par, e_par3, e_par2N, e_setD, e_setM, e_own, e_isi, e_tupT, e_nilT, e_consT, e_lstN, e_dic0, e_fnN, e_callN, e_fzN, e_seqO, e_itA, e_for, e_attr, e_raise, e_make, e_part, e_slice, e_ixM, e_setIx, e_append, e_popAt, e_lenM, e_fz, e_call, e_prop, e_getM, e_putM, e_getD, e_ixD, e_inD, e_methS0, e_fldSet, e_callO, e_callS, e_seqN, e_opN, vv_gt, vv_ge, vv_geS, vv_lt, vv_le, vv_add, vv_addL, vv_addT, vv_sub, vv_neg, vv_abs, vv_int, vv_intb, vv_lenL, vv_lenT, vv_lenS, vv_ixL, vv_ixT, vv_b, vv_tup, vv_lst, vv_tupL, vv_tupT, vv_listN, vv_seqL, vv_seqT, vv_asc, vv_alpha, vv_lower, vv_strS, vv_moL, vv_moD, vv_tyI, vv_tyB, vv_tyS, vv_tyL, vv_tyT, vv_tyD, vv_tyN, vv_min, vv_max, vv_keys, vv_asI, vv_k1, vv_k2, vv_eq, vv_ne, vv_eqI, vv_ii, vv_ib, vv_bi, vv_bb, vv_tt, vv_ss, vv_dd, ixN, lstAt, dicAt, atI_0, atI_1, atI_2, outs, getMs, putM, putMs, ownB, isM, isS, okF, okI, sizeLine]
      · simp [v, c, pD, e_ret, e_lift, e_bnd, e_var, e_C, e_op, e_un, e_nil, e_cons, e_fn, e_test, e_notT, e_andT, e_orT, e_notV, e_andV, e_orV, e_if, e_tt, e_ff, e_chain, e_tup, e_lst, e_next, e_seq, e_nx, e_rt, e_drop, e_mret, e_retN, e_set, e_asg, e_par, e_par3, e_par2N, e_setD, e_setM, e_own, e_isi, e_tupT, e_nilT, e_consT, e_lstN, e_dic0, e_fnN, e_callN, e_fzN, e_seqO, e_itA, e_for, e_attr, e_raise, e_make, e_part, e_slice, e_ixM, e_setIx, e_append, e_popAt, e_lenM, e_fz, e_call, e_prop, e_getM, e_putM, e_getD, e_ixD, e_inD, e_methS0, e_fldSet, e_callO, e_callS, e_seqN, e_opN, vv_gt, vv_ge, vv_geS, vv_lt, vv_le, vv_add, vv_addL, vv_addT, vv_sub, vv_neg, vv_abs, vv_int, vv_intb, vv_lenL, vv_lenT, vv_lenS, vv_ixL, vv_ixT, vv_b, vv_tup, vv_lst, vv_tupL, vv_tupT, vv_listN, vv_seqL, vv_seqT, vv_asc, vv_alpha, vv_lower, vv_strS, vv_moL, vv_moD, vv_tyI, vv_tyB, vv_tyS, vv_tyL, vv_tyT, vv_tyD, vv_tyN, vv_min, vv_max, vv_keys, vv_asI, vv_k1, vv_k2, vv_eq, vv_ne, vv_eqI, vv_ii, vv_ib, vv_bi, vv_bb, vv_tt, vv_ss, vv_dd, ixN, lstAt, dicAt, atI_0, atI_1, atI_2, outs, getMs, putM, putMs, ownB, isM, isS, okF, okI, sizeLine]
  case hl =>
    have h1 := once_len (nms rs)
    have h2 := sortT_len (onceL (nms rs))
    simp [sortSet, sizeLine]
    omega
  have e3 : ((sortSet (nms rs)).map Dat.str).filterMap (fun d => match d with | .str x => if cnt rs x ≠ 0 then some (pD (x, cnt rs x)) else none | _ => none) = psD (NF ps) := by
    rw [← en]
    unfold NF psD
    generalize sortSet (nms rs) = xs
    induction xs with
    | nil => rfl
    | cons z r ih =>
      rw [List.map_cons, List.filterMap_cons, List.filterMap_cons]
      by_cases c : cnt rs z = 0
      · simp only [c, ne_eq, not_true_eq_false, if_false]
        simpa using ih
      · simp only [ne_eq, c, not_false_eq_true, if_true, List.map_cons]
        rw [← ih]
  rw [e3]
  unfold LawD
  rcases hx with rfl | ⟨d, rfl⟩ <;> simp [wipeG, backG, e_ret, e_lift, e_bnd, e_var, e_C, e_op, e_un, e_nil, e_cons, e_fn, e_test, e_notT, e_andT, e_orT, e_notV, e_andV, e_orV, e_if, e_tt, e_ff, e_chain, e_tup, e_lst, e_next, e_seq, e_nx, e_rt, e_drop, e_mret, e_retN, e_set, e_asg, e_par, e_par3, e_par2N, e_setD, e_setM, e_own, e_isi, e_tupT, e_nilT, e_consT, e_lstN, e_dic0, e_fnN, e_callN, e_fzN, e_seqO, e_itA, e_for, e_attr, e_raise, e_make, e_part, e_slice, e_ixM, e_setIx, e_append, e_popAt, e_lenM, e_fz, e_call, e_prop, e_getM, e_putM, e_getD, e_ixD, e_inD, e_methS0, e_fldSet, e_callO, e_callS, e_seqN, e_opN, vv_gt, vv_ge, vv_geS, vv_lt, vv_le, vv_add, vv_addL, vv_addT, vv_sub, vv_neg, vv_abs, vv_int, vv_intb, vv_lenL, vv_lenT, vv_lenS, vv_ixL, vv_ixT, vv_b, vv_tup, vv_lst, vv_tupL, vv_tupT, vv_listN, vv_seqL, vv_seqT, vv_asc, vv_alpha, vv_lower, vv_strS, vv_moL, vv_moD, vv_tyI, vv_tyB, vv_tyS, vv_tyL, vv_tyT, vv_tyD, vv_tyN, vv_min, vv_max, vv_keys, vv_asI, vv_k1, vv_k2, vv_eq, vv_ne, vv_eqI, vv_ii, vv_ib, vv_bi, vv_bb, vv_tt, vv_ss, vv_dd, ixN, lstAt, dicAt, atI_0, atI_1, atI_2, outs, getMs, putM, putMs, ownB, isM, isS, okF, okI, sizeLine]
theorem law_plus_ok {ps qs : Prs} {a b : Int} (hp : ∀ p ∈ ps, p.2.natAbs < 2 ^ 100) (hq : ∀ p ∈ qs, p.2.natAbs < 2 ^ 100) (hl : ps.length + qs.length < 64) : F_law_plus [] [LawD ps a, LawD qs b] = some (.ok (LawD (NF (ps ++ qs)) (a + b)) []) := by
  have e := law_sum_ok (d := .tup false (psD ps ++ psD qs)) (ps := ps ++ qs) (k := a + b) (by simp [seqD, psD]) (fun p h => (List.mem_append.mp h).elim (hp p) (hq p)) (by simpa using hl)
  have l1 : (psD ps).length + (psD qs).length ≤ 2 ^ 24 := by simp [psD]; omega
  unfold F_law_plus runF
  generalize LawD (NF (ps ++ qs)) (a + b) = Z at *
  unfold LawD
  simp at l1
  simp [m_law_plus, e, l1, e_ret, e_lift, e_bnd, e_var, e_C, e_op, e_un, e_nil, e_cons, e_fn, e_test, e_notT, e_andT, e_orT, e_notV, e_andV, e_orV, e_if, e_tt, e_ff, e_chain, e_tup, e_lst, e_next, e_seq, e_nx, e_rt, e_drop, e_mret, e_retN, e_set, e_asg, e_par, e_par3, e_par2N, e_setD, e_setM, e_own, e_isi, e_tupT, e_nilT, e_consT, e_lstN, e_dic0, e_fnN, e_callN, e_fzN, e_seqO, e_itA, e_for, e_attr, e_raise, e_make, e_part, e_slice, e_ixM, e_setIx, e_append, e_popAt, e_lenM, e_fz, e_call, e_prop, e_getM, e_putM, e_getD, e_ixD, e_inD, e_methS0, e_fldSet, e_callO, e_callS, e_seqN, e_opN, vv_gt, vv_ge, vv_geS, vv_lt, vv_le, vv_add, vv_addL, vv_addT, vv_sub, vv_neg, vv_abs, vv_int, vv_intb, vv_lenL, vv_lenT, vv_lenS, vv_ixL, vv_ixT, vv_b, vv_tup, vv_lst, vv_tupL, vv_tupT, vv_listN, vv_seqL, vv_seqT, vv_asc, vv_alpha, vv_lower, vv_strS, vv_moL, vv_moD, vv_tyI, vv_tyB, vv_tyS, vv_tyL, vv_tyT, vv_tyD, vv_tyN, vv_min, vv_max, vv_keys, vv_asI, vv_k1, vv_k2, vv_eq, vv_ne, vv_eqI, vv_ii, vv_ib, vv_bi, vv_bb, vv_tt, vv_ss, vv_dd, ixN, lstAt, dicAt, atI_0, atI_1, atI_2, outs, getMs, putM, putMs, ownB, isM, isS, okF, okI, sizeLine]
theorem law_times_ok {ps : Prs} {a t : Int} (hp : ∀ p ∈ ps, p.2.natAbs < 2 ^ 80) (ha : a.natAbs < 2 ^ 80) (ht : t.natAbs < 128) (hl : ps.length < 64) : F_law_times [] [LawD ps a, .int t] = some (.ok (LawD (NF (scl t ps)) (t * a)) []) := by
  have e := law_sum_ok (d := .lst (psD (scl t ps))) (ps := scl t ps) (k := t * a) rfl (fun p h => by
    obtain ⟨q, hq, rfl⟩ := List.mem_map.mp h
    have h1 := hp q hq
    show (t * q.2).natAbs < 2 ^ 100
    rw [Int.natAbs_mul]
    exact Nat.lt_of_le_of_lt (Nat.mul_le_mul (Nat.le_of_lt ht) (Nat.le_of_lt h1)) (by decide)) (by simpa [scl] using hl)
  have em : mulF (.int a) (.int t) = some (.int (t * a)) := by rw [mulF_ok (by omega) (by omega), Int.mul_comm]
  unfold F_law_times runF
  generalize LawD (NF (scl t ps)) (t * a) = Z at *
  unfold LawD
  simp only [m_law_times, List.map_cons, List.map_nil, List.replicate, List.length_cons, List.length_nil, List.append_nil, List.nil_append, List.cons_append]
  simp [e_ret, e_lift, e_bnd, e_var, e_C, e_op, e_un, e_nil, e_cons, e_fn, e_test, e_notT, e_andT, e_orT, e_notV, e_andV, e_orV, e_if, e_tt, e_ff, e_chain, e_tup, e_lst, e_next, e_seq, e_nx, e_rt, e_drop, e_mret, e_retN, e_set, e_asg, e_par, e_par3, e_par2N, e_setD, e_setM, e_own, e_isi, e_tupT, e_nilT, e_consT, e_lstN, e_dic0, e_fnN, e_callN, e_fzN, e_seqO, e_itA, e_for, e_attr, e_raise, e_make, e_part, e_slice, e_ixM, e_setIx, e_append, e_popAt, e_lenM, e_fz, e_call, e_prop, e_getM, e_putM, e_getD, e_ixD, e_inD, e_methS0, e_fldSet, e_callO, e_callS, e_seqN, e_opN, vv_gt, vv_ge, vv_geS, vv_lt, vv_le, vv_add, vv_addL, vv_addT, vv_sub, vv_neg, vv_abs, vv_int, vv_intb, vv_lenL, vv_lenT, vv_lenS, vv_ixL, vv_ixT, vv_b, vv_tup, vv_lst, vv_tupL, vv_tupT, vv_listN, vv_seqL, vv_seqT, vv_asc, vv_alpha, vv_lower, vv_strS, vv_moL, vv_moD, vv_tyI, vv_tyB, vv_tyS, vv_tyL, vv_tyT, vv_tyD, vv_tyN, vv_min, vv_max, vv_keys, vv_asI, vv_k1, vv_k2, vv_eq, vv_ne, vv_eqI, vv_ii, vv_ib, vv_bi, vv_bb, vv_tt, vv_ss, vv_dd, ixN, lstAt, dicAt, atI_0, atI_1, atI_2, outs, getMs, putM, putMs, ownB, isM, isS, okF, okI, sizeLine]
  rw [mLc_map (g' := [.d (.tup true [.tup true (psD ps), .int a]), .d (.int t), .no, .no]) (ds := psD ps) (fun d => match d with | .tup _ [.str x, .int k] => pD (x, t * k) | _ => .non) ?hi ?hn ?h ?hl]
  case hi => simp [e_ret, e_lift, e_bnd, e_var, e_C, e_op, e_un, e_nil, e_cons, e_fn, e_test, e_notT, e_andT, e_orT, e_notV, e_andV, e_orV, e_if, e_tt, e_ff, e_chain, e_tup, e_lst, e_next, e_seq, e_nx, e_rt, e_drop, e_mret, e_retN, e_set, e_asg, e_par, e_par3, e_par2N, e_setD, e_setM, e_own, e_isi, e_tupT, e_nilT, e_consT, e_lstN, e_dic0, e_fnN, e_callN, e_fzN, e_seqO, e_itA, e_for, e_attr, e_raise, e_make, e_part, e_slice, e_ixM, e_setIx, e_append, e_popAt, e_lenM, e_fz, e_call, e_prop, e_getM, e_putM, e_getD, e_ixD, e_inD, e_methS0, e_fldSet, e_callO, e_callS, e_seqN, e_opN, vv_gt, vv_ge, vv_geS, vv_lt, vv_le, vv_add, vv_addL, vv_addT, vv_sub, vv_neg, vv_abs, vv_int, vv_intb, vv_lenL, vv_lenT, vv_lenS, vv_ixL, vv_ixT, vv_b, vv_tup, vv_lst, vv_tupL, vv_tupT, vv_listN, vv_seqL, vv_seqT, vv_asc, vv_alpha, vv_lower, vv_strS, vv_moL, vv_moD, vv_tyI, vv_tyB, vv_tyS, vv_tyL, vv_tyT, vv_tyD, vv_tyN, vv_min, vv_max, vv_keys, vv_asI, vv_k1, vv_k2, vv_eq, vv_ne, vv_eqI, vv_ii, vv_ib, vv_bi, vv_bb, vv_tt, vv_ss, vv_dd, ixN, lstAt, dicAt, atI_0, atI_1, atI_2, outs, getMs, putM, putMs, ownB, isM, isS, okF, okI, sizeLine]
  case hn => rfl
  case h =>
    intro d hd
    obtain ⟨p, hp', rfl⟩ := List.mem_map.mp hd
    have em : mulF (.int p.2) (.int t) = some (.int (t * p.2)) := by rw [mulF_ok (by have := hp p hp'; omega) (by omega), Int.mul_comm]
    refine ⟨[.d (.tup true [.tup true (psD ps), .int a]), .d (.int t), .d (.str p.1), .d (.int p.2)], ?_, ?_, ?_, ?_⟩
    · simp [pD, wipeG, e_ret, e_lift, e_bnd, e_var, e_C, e_op, e_un, e_nil, e_cons, e_fn, e_test, e_notT, e_andT, e_orT, e_notV, e_andV, e_orV, e_if, e_tt, e_ff, e_chain, e_tup, e_lst, e_next, e_seq, e_nx, e_rt, e_drop, e_mret, e_retN, e_set, e_asg, e_par, e_par3, e_par2N, e_setD, e_setM, e_own, e_isi, e_tupT, e_nilT, e_consT, e_lstN, e_dic0, e_fnN, e_callN, e_fzN, e_seqO, e_itA, e_for, e_attr, e_raise, e_make, e_part, e_slice, e_ixM, e_setIx, e_append, e_popAt, e_lenM, e_fz, e_call, e_prop, e_getM, e_putM, e_getD, e_ixD, e_inD, e_methS0, e_fldSet, e_callO, e_callS, e_seqN, e_opN, vv_gt, vv_ge, vv_geS, vv_lt, vv_le, vv_add, vv_addL, vv_addT, vv_sub, vv_neg, vv_abs, vv_int, vv_intb, vv_lenL, vv_lenT, vv_lenS, vv_ixL, vv_ixT, vv_b, vv_tup, vv_lst, vv_tupL, vv_tupT, vv_listN, vv_seqL, vv_seqT, vv_asc, vv_alpha, vv_lower, vv_strS, vv_moL, vv_moD, vv_tyI, vv_tyB, vv_tyS, vv_tyL, vv_tyT, vv_tyD, vv_tyN, vv_min, vv_max, vv_keys, vv_asI, vv_k1, vv_k2, vv_eq, vv_ne, vv_eqI, vv_ii, vv_ib, vv_bi, vv_bb, vv_tt, vv_ss, vv_dd, ixN, lstAt, dicAt, atI_0, atI_1, atI_2, outs, getMs, putM, putMs, ownB, isM, isS, okF, okI, sizeLine]
    · simp [wipeG, e_ret, e_lift, e_bnd, e_var, e_C, e_op, e_un, e_nil, e_cons, e_fn, e_test, e_notT, e_andT, e_orT, e_notV, e_andV, e_orV, e_if, e_tt, e_ff, e_chain, e_tup, e_lst, e_next, e_seq, e_nx, e_rt, e_drop, e_mret, e_retN, e_set, e_asg, e_par, e_par3, e_par2N, e_setD, e_setM, e_own, e_isi, e_tupT, e_nilT, e_consT, e_lstN, e_dic0, e_fnN, e_callN, e_fzN, e_seqO, e_itA, e_for, e_attr, e_raise, e_make, e_part, e_slice, e_ixM, e_setIx, e_append, e_popAt, e_lenM, e_fz, e_call, e_prop, e_getM, e_putM, e_getD, e_ixD, e_inD, e_methS0, e_fldSet, e_callO, e_callS, e_seqN, e_opN, vv_gt, vv_ge, vv_geS, vv_lt, vv_le, vv_add, vv_addL, vv_addT, vv_sub, vv_neg, vv_abs, vv_int, vv_intb, vv_lenL, vv_lenT, vv_lenS, vv_ixL, vv_ixT, vv_b, vv_tup, vv_lst, vv_tupL, vv_tupT, vv_listN, vv_seqL, vv_seqT, vv_asc, vv_alpha, vv_lower, vv_strS, vv_moL, vv_moD, vv_tyI, vv_tyB, vv_tyS, vv_tyL, vv_tyT, vv_tyD, vv_tyN, vv_min, vv_max, vv_keys, vv_asI, vv_k1, vv_k2, vv_eq, vv_ne, vv_eqI, vv_ii, vv_ib, vv_bi, vv_bb, vv_tt, vv_ss, vv_dd, ixN, lstAt, dicAt, atI_0, atI_1, atI_2, outs, getMs, putM, putMs, ownB, isM, isS, okF, okI, sizeLine]
    · simp [e_ret, e_lift, e_bnd, e_var, e_C, e_op, e_un, e_nil, e_cons, e_fn, e_test, e_notT, e_andT, e_orT, e_notV, e_andV, e_orV, e_if, e_tt, e_ff, e_chain, e_tup, e_lst, e_next, e_seq, e_nx, e_rt, e_drop, e_mret, e_retN, e_set, e_asg, e_par, e_par3, e_par2N, e_setD, e_setM, e_own, e_isi, e_tupT, e_nilT, e_consT, e_lstN, e_dic0, e_fnN, e_callN, e_fzN, e_seqO, e_itA, e_for, e_attr, e_raise, e_make, e_part, e_slice, e_ixM, e_setIx, e_append, e_popAt, e_lenM, e_fz, e_call, e_prop, e_getM, e_putM, e_getD, e_ixD, e_inD, e_methS0, e_fldSet, e_callO, e_callS, e_seqN, e_opN, vv_gt, vv_ge, vv_geS, vv_lt, vv_le, vv_add, vv_addL, vv_addT, vv_sub, vv_neg, vv_abs, vv_int, vv_intb, vv_lenL, vv_lenT, vv_lenS, vv_ixL, vv_ixT, vv_b, vv_tup, vv_lst, vv_tupL, vv_tupT, vv_listN, vv_seqL, vv_seqT, vv_asc, vv_alpha, vv_lower, vv_strS, vv_moL, vv_moD, vv_tyI, vv_tyB, vv_tyS, vv_tyL, vv_tyT, vv_tyD, vv_tyN, vv_min, vv_max, vv_keys, vv_asI, vv_k1, vv_k2, vv_eq, vv_ne, vv_eqI, vv_ii, vv_ib, vv_bi, vv_bb, vv_tt, vv_ss, vv_dd, ixN, lstAt, dicAt, atI_0, atI_1, atI_2, outs, getMs, putM, putMs, ownB, isM, isS, okF, okI, sizeLine]
    · simp [pD, em, e_ret, e_lift, e_bnd, e_var, e_C, e_op, e_un, e_nil, e_cons, e_fn, e_test, e_notT, e_andT, e_orT, e_notV, e_andV, e_orV, e_if, e_tt, e_ff, e_chain, e_tup, e_lst, e_next, e_seq, e_nx, e_rt, e_drop, e_mret, e_retN, e_set, e_asg, e_par, e_par3, e_par2N, e_setD, e_setM, e_own, e_isi, e_tupT, e_nilT, e_consT, e_lstN, e_dic0, e_fnN, e_callN, e_fzN, e_seqO, e_itA, e_for, e_attr, e_raise, e_make, e_part, e_slice, e_ixM, e_setIx, e_append, e_popAt, e_lenM, e_fz, e_call, e_prop, e_getM, e_putM, e_getD, e_ixD, e_inD, e_methS0, e_fldSet, e_callO, e_callS, e_seqN, e_opN, vv_gt, vv_ge, vv_geS, vv_lt, vv_le, vv_add, vv_addL, vv_addT, vv_sub, vv_neg, vv_abs, vv_int, vv_intb, vv_lenL, vv_lenT, vv_lenS, vv_ixL, vv_ixT, vv_b, vv_tup, vv_lst, vv_tupL, vv_tupT, vv_listN, vv_seqL, vv_seqT, vv_asc, vv_alpha, vv_lower, vv_strS, vv_moL, vv_moD, vv_tyI, vv_tyB, vv_tyS, vv_tyL, vv_tyT, vv_tyD, vv_tyN, vv_min, vv_max, vv_keys, vv_asI, vv_k1, vv_k2, vv_eq, vv_ne, vv_eqI, vv_ii, vv_ib, vv_bi, vv_bb, vv_tt, vv_ss, vv_dd, ixN, lstAt, dicAt, atI_0, atI_1, atI_2, outs, getMs, putM, putMs, ownB, isM, isS, okF, okI, sizeLine]
  case hl => simp [psD, sizeLine]; omega
  have e3 : (psD ps).map (fun d => match d with | .tup _ [.str x, .int k] => pD (x, t * k) | _ => .non) = psD (scl t ps) := by
    unfold psD scl
    rw [List.map_map, List.map_map]
    rfl
  rw [e3]
  simp [e, em, wipeG, backG, e_ret, e_lift, e_bnd, e_var, e_C, e_op, e_un, e_nil, e_cons, e_fn, e_test, e_notT, e_andT, e_orT, e_notV, e_andV, e_orV, e_if, e_tt, e_ff, e_chain, e_tup, e_lst, e_next, e_seq, e_nx, e_rt, e_drop, e_mret, e_retN, e_set, e_asg, e_par, e_par3, e_par2N, e_setD, e_setM, e_own, e_isi, e_tupT, e_nilT, e_consT, e_lstN, e_dic0, e_fnN, e_callN, e_fzN, e_seqO, e_itA, e_for, e_attr, e_raise, e_make, e_part, e_slice, e_ixM, e_setIx, e_append, e_popAt, e_lenM, e_fz, e_call, e_prop, e_getM, e_putM, e_getD, e_ixD, e_inD, e_methS0, e_fldSet, e_callO, e_callS, e_seqN, e_opN, vv_gt, vv_ge, vv_geS, vv_lt, vv_le, vv_add, vv_addL, vv_addT, vv_sub, vv_neg, vv_abs, vv_int, vv_intb, vv_lenL, vv_lenT, vv_lenS, vv_ixL, vv_ixT, vv_b, vv_tup, vv_lst, vv_tupL, vv_tupT, vv_listN, vv_seqL, vv_seqT, vv_asc, vv_alpha, vv_lower, vv_strS, vv_moL, vv_moD, vv_tyI, vv_tyB, vv_tyS, vv_tyL, vv_tyT, vv_tyD, vv_tyN, vv_min, vv_max, vv_keys, vv_asI, vv_k1, vv_k2, vv_eq, vv_ne, vv_eqI, vv_ii, vv_ib, vv_bi, vv_bb, vv_tt, vv_ss, vv_dd, ixN, lstAt, dicAt, atI_0, atI_1, atI_2, outs, getMs, putM, putMs, ownB, isM, isS, okF, okI, sizeLine]
theorem ints_map : ∀ xs : List Int, intsO (xs.map Dat.int) = some xs
  | [] => rfl
  | x :: r => by
    show (intsO (r.map Dat.int)).map (x :: ·) = _
    rw [ints_map r]
    rfl
theorem law_comes_ok {vs ps : Prs} {a : Int} (hv : Vals vs) (hp : ∀ p ∈ ps, p.2.natAbs < 2 ^ 100) (hs : ∀ x ∈ nms ps, x ∈ nms vs) (hl : ps.length < 64) : F_law_comes [] [LawD ps a, .dic (dD vs)] = some (.ok (.int (a + evP vs ps)) []) := by
  have e3 : (psD ps).map (fun d => match d with | .tup _ [.str x, .int k] => Dat.int (k * cnt vs x) | _ => .non) = (ps.map fun p => p.2 * cnt vs p.1).map Dat.int := by
    unfold psD
    rw [List.map_map, List.map_map]
    rfl
  have e4 : sumF [.lst ((ps.map fun p => p.2 * cnt vs p.1).map Dat.int)] = some (.int (evP vs ps)) := by
    show (intsO _).map _ = _
    rw [ints_map]
    show some (Dat.int (List.sum (ps.map fun p => p.2 * cnt vs p.1))) = _
    congr 2
    unfold evP
    clear hp hs hl e3
    induction ps with
    | nil => rfl
    | cons p r ih => rw [List.map_cons, List.sum_cons, ih]; rfl
  unfold F_law_comes runF LawD
  simp only [m_law_comes, List.map_cons, List.map_nil, List.replicate, List.length_cons, List.length_nil, List.append_nil, List.nil_append, List.cons_append]
  simp [e_ret, e_lift, e_bnd, e_var, e_C, e_op, e_un, e_nil, e_cons, e_fn, e_test, e_notT, e_andT, e_orT, e_notV, e_andV, e_orV, e_if, e_tt, e_ff, e_chain, e_tup, e_lst, e_next, e_seq, e_nx, e_rt, e_drop, e_mret, e_retN, e_set, e_asg, e_par, e_par3, e_par2N, e_setD, e_setM, e_own, e_isi, e_tupT, e_nilT, e_consT, e_lstN, e_dic0, e_fnN, e_callN, e_fzN, e_seqO, e_itA, e_for, e_attr, e_raise, e_make, e_part, e_slice, e_ixM, e_setIx, e_append, e_popAt, e_lenM, e_fz, e_call, e_prop, e_getM, e_putM, e_getD, e_ixD, e_inD, e_methS0, e_fldSet, e_callO, e_callS, e_seqN, e_opN, vv_gt, vv_ge, vv_geS, vv_lt, vv_le, vv_add, vv_addL, vv_addT, vv_sub, vv_neg, vv_abs, vv_int, vv_intb, vv_lenL, vv_lenT, vv_lenS, vv_ixL, vv_ixT, vv_b, vv_tup, vv_lst, vv_tupL, vv_tupT, vv_listN, vv_seqL, vv_seqT, vv_asc, vv_alpha, vv_lower, vv_strS, vv_moL, vv_moD, vv_tyI, vv_tyB, vv_tyS, vv_tyL, vv_tyT, vv_tyD, vv_tyN, vv_min, vv_max, vv_keys, vv_asI, vv_k1, vv_k2, vv_eq, vv_ne, vv_eqI, vv_ii, vv_ib, vv_bi, vv_bb, vv_tt, vv_ss, vv_dd, ixN, lstAt, dicAt, atI_0, atI_1, atI_2, outs, getMs, putM, putMs, ownB, isM, isS, okF, okI, sizeLine]
  rw [mLc_map (g' := [.d (.tup true [.tup true (psD ps), .int a]), .d (.dic (dD vs)), .no, .no]) (ds := psD ps) (fun d => match d with | .tup _ [.str x, .int k] => Dat.int (k * cnt vs x) | _ => .non) ?hi ?hn ?h ?hl]
  case hi => simp [e_ret, e_lift, e_bnd, e_var, e_C, e_op, e_un, e_nil, e_cons, e_fn, e_test, e_notT, e_andT, e_orT, e_notV, e_andV, e_orV, e_if, e_tt, e_ff, e_chain, e_tup, e_lst, e_next, e_seq, e_nx, e_rt, e_drop, e_mret, e_retN, e_set, e_asg, e_par, e_par3, e_par2N, e_setD, e_setM, e_own, e_isi, e_tupT, e_nilT, e_consT, e_lstN, e_dic0, e_fnN, e_callN, e_fzN, e_seqO, e_itA, e_for, e_attr, e_raise, e_make, e_part, e_slice, e_ixM, e_setIx, e_append, e_popAt, e_lenM, e_fz, e_call, e_prop, e_getM, e_putM, e_getD, e_ixD, e_inD, e_methS0, e_fldSet, e_callO, e_callS, e_seqN, e_opN, vv_gt, vv_ge, vv_geS, vv_lt, vv_le, vv_add, vv_addL, vv_addT, vv_sub, vv_neg, vv_abs, vv_int, vv_intb, vv_lenL, vv_lenT, vv_lenS, vv_ixL, vv_ixT, vv_b, vv_tup, vv_lst, vv_tupL, vv_tupT, vv_listN, vv_seqL, vv_seqT, vv_asc, vv_alpha, vv_lower, vv_strS, vv_moL, vv_moD, vv_tyI, vv_tyB, vv_tyS, vv_tyL, vv_tyT, vv_tyD, vv_tyN, vv_min, vv_max, vv_keys, vv_asI, vv_k1, vv_k2, vv_eq, vv_ne, vv_eqI, vv_ii, vv_ib, vv_bi, vv_bb, vv_tt, vv_ss, vv_dd, ixN, lstAt, dicAt, atI_0, atI_1, atI_2, outs, getMs, putM, putMs, ownB, isM, isS, okF, okI, sizeLine]
  case hn => rfl
  case h =>
    intro d hd
    obtain ⟨p, hp', rfl⟩ := List.mem_map.mp hd
    have v := val_dD hv.n p.1
    rw [if_pos (hs _ (List.mem_map_of_mem hp'))] at v
    have em : mulF (.int p.2) (.int (cnt vs p.1)) = some (.int (p.2 * cnt vs p.1)) := mulF_ok (by have := hp p hp'; omega) (by have := hv.b p.1; omega)
    refine ⟨[.d (.tup true [.tup true (psD ps), .int a]), .d (.dic (dD vs)), .d (.str p.1), .d (.int p.2)], ?_, ?_, ?_, ?_⟩
    · simp [pD, wipeG, e_ret, e_lift, e_bnd, e_var, e_C, e_op, e_un, e_nil, e_cons, e_fn, e_test, e_notT, e_andT, e_orT, e_notV, e_andV, e_orV, e_if, e_tt, e_ff, e_chain, e_tup, e_lst, e_next, e_seq, e_nx, e_rt, e_drop, e_mret, e_retN, e_set, e_asg, e_par, e_par3, e_par2N, e_setD, e_setM, e_own, e_isi, e_tupT, e_nilT, e_consT, e_lstN, e_dic0, e_fnN, e_callN, e_fzN, e_seqO, e_itA, e_for, e_attr, e_raise, e_make, e_part, e_slice, e_ixM, e_setIx, e_append, e_popAt, e_lenM, e_fz, e_call, e_prop, e_getM, e_putM, e_getD, e_ixD, e_inD, e_methS0, e_fldSet, e_callO, e_callS, e_seqN, e_opN, vv_gt, vv_ge, vv_geS, vv_lt, vv_le, vv_add, vv_addL, vv_addT, vv_sub, vv_neg, vv_abs, vv_int, vv_intb, vv_lenL, vv_lenT, vv_lenS, vv_ixL, vv_ixT, vv_b, vv_tup, vv_lst, vv_tupL, vv_tupT, vv_listN, vv_seqL, vv_seqT, vv_asc, vv_alpha, vv_lower, vv_strS, vv_moL, vv_moD, vv_tyI, vv_tyB, vv_tyS, vv_tyL, vv_tyT, vv_tyD, vv_tyN, vv_min, vv_max, vv_keys, vv_asI, vv_k1, vv_k2, vv_eq, vv_ne, vv_eqI, vv_ii, vv_ib, vv_bi, vv_bb, vv_tt, vv_ss, vv_dd, ixN, lstAt, dicAt, atI_0, atI_1, atI_2, outs, getMs, putM, putMs, ownB, isM, isS, okF, okI, sizeLine]
    · simp [wipeG, e_ret, e_lift, e_bnd, e_var, e_C, e_op, e_un, e_nil, e_cons, e_fn, e_test, e_notT, e_andT, e_orT, e_notV, e_andV, e_orV, e_if, e_tt, e_ff, e_chain, e_tup, e_lst, e_next, e_seq, e_nx, e_rt, e_drop, e_mret, e_retN, e_set, e_asg, e_par, e_par3, e_par2N, e_setD, e_setM, e_own, e_isi, e_tupT, e_nilT, e_consT, e_lstN, e_dic0, e_fnN, e_callN, e_fzN, e_seqO, e_itA, e_for, e_attr, e_raise, e_make, e_part, e_slice, e_ixM, e_setIx, e_append, e_popAt, e_lenM, e_fz, e_call, e_prop, e_getM, e_putM, e_getD, e_ixD, e_inD, e_methS0, e_fldSet, e_callO, e_callS, e_seqN, e_opN, vv_gt, vv_ge, vv_geS, vv_lt, vv_le, vv_add, vv_addL, vv_addT, vv_sub, vv_neg, vv_abs, vv_int, vv_intb, vv_lenL, vv_lenT, vv_lenS, vv_ixL, vv_ixT, vv_b, vv_tup, vv_lst, vv_tupL, vv_tupT, vv_listN, vv_seqL, vv_seqT, vv_asc, vv_alpha, vv_lower, vv_strS, vv_moL, vv_moD, vv_tyI, vv_tyB, vv_tyS, vv_tyL, vv_tyT, vv_tyD, vv_tyN, vv_min, vv_max, vv_keys, vv_asI, vv_k1, vv_k2, vv_eq, vv_ne, vv_eqI, vv_ii, vv_ib, vv_bi, vv_bb, vv_tt, vv_ss, vv_dd, ixN, lstAt, dicAt, atI_0, atI_1, atI_2, outs, getMs, putM, putMs, ownB, isM, isS, okF, okI, sizeLine]
    · simp [e_ret, e_lift, e_bnd, e_var, e_C, e_op, e_un, e_nil, e_cons, e_fn, e_test, e_notT, e_andT, e_orT, e_notV, e_andV, e_orV, e_if, e_tt, e_ff, e_chain, e_tup, e_lst, e_next, e_seq, e_nx, e_rt, e_drop, e_mret, e_retN, e_set, e_asg, e_par, e_par3, e_par2N, e_setD, e_setM, e_own, e_isi, e_tupT, e_nilT, e_consT, e_lstN, e_dic0, e_fnN, e_callN, e_fzN, e_seqO, e_itA, e_for, e_attr, e_raise, e_make, e_part, e_slice, e_ixM, e_setIx, e_append, e_popAt, e_lenM, e_fz, e_call, e_prop, e_getM, e_putM, e_getD, e_ixD, e_inD, e_methS0, e_fldSet, e_callO, e_callS, e_seqN, e_opN, vv_gt, vv_ge, vv_geS, vv_lt, vv_le, vv_add, vv_addL, vv_addT, vv_sub, vv_neg, vv_abs, vv_int, vv_intb, vv_lenL, vv_lenT, vv_lenS, vv_ixL, vv_ixT, vv_b, vv_tup, vv_lst, vv_tupL, vv_tupT, vv_listN, vv_seqL, vv_seqT, vv_asc, vv_alpha, vv_lower, vv_strS, vv_moL, vv_moD, vv_tyI, vv_tyB, vv_tyS, vv_tyL, vv_tyT, vv_tyD, vv_tyN, vv_min, vv_max, vv_keys, vv_asI, vv_k1, vv_k2, vv_eq, vv_ne, vv_eqI, vv_ii, vv_ib, vv_bi, vv_bb, vv_tt, vv_ss, vv_dd, ixN, lstAt, dicAt, atI_0, atI_1, atI_2, outs, getMs, putM, putMs, ownB, isM, isS, okF, okI, sizeLine]
    · simp [pD, v, em, e_ret, e_lift, e_bnd, e_var, e_C, e_op, e_un, e_nil, e_cons, e_fn, e_test, e_notT, e_andT, e_orT, e_notV, e_andV, e_orV, e_if, e_tt, e_ff, e_chain, e_tup, e_lst, e_next, e_seq, e_nx, e_rt, e_drop, e_mret, e_retN, e_set, e_asg, e_par, e_par3, e_par2N, e_setD, e_setM, e_own, e_isi, e_tupT, e_nilT, e_consT, e_lstN, e_dic0, e_fnN, e_callN, e_fzN, e_seqO, e_itA, e_for, e_attr, e_raise, e_make, e_part, e_slice, e_ixM, e_setIx, e_append, e_popAt, e_lenM, e_fz, e_call, e_prop, e_getM, e_putM, e_getD, e_ixD, e_inD, e_methS0, e_fldSet, e_callO, e_callS, e_seqN, e_opN, vv_gt, vv_ge, vv_geS, vv_lt, vv_le, vv_add, vv_addL, vv_addT, vv_sub, vv_neg, vv_abs, vv_int, vv_intb, vv_lenL, vv_lenT, vv_lenS, vv_ixL, vv_ixT, vv_b, vv_tup, vv_lst, vv_tupL, vv_tupT, vv_listN, vv_seqL, vv_seqT, vv_asc, vv_alpha, vv_lower, vv_strS, vv_moL, vv_moD, vv_tyI, vv_tyB, vv_tyS, vv_tyL, vv_tyT, vv_tyD, vv_tyN, vv_min, vv_max, vv_keys, vv_asI, vv_k1, vv_k2, vv_eq, vv_ne, vv_eqI, vv_ii, vv_ib, vv_bi, vv_bb, vv_tt, vv_ss, vv_dd, ixN, lstAt, dicAt, atI_0, atI_1, atI_2, outs, getMs, putM, putMs, ownB, isM, isS, okF, okI, sizeLine]
  case hl => simp [psD, sizeLine]; omega
  rw [e3]
  generalize (ps.map fun p => p.2 * cnt vs p.1) = zs at e4 ⊢
  simp [e4, wipeG, backG, e_ret, e_lift, e_bnd, e_var, e_C, e_op, e_un, e_nil, e_cons, e_fn, e_test, e_notT, e_andT, e_orT, e_notV, e_andV, e_orV, e_if, e_tt, e_ff, e_chain, e_tup, e_lst, e_next, e_seq, e_nx, e_rt, e_drop, e_mret, e_retN, e_set, e_asg, e_par, e_par3, e_par2N, e_setD, e_setM, e_own, e_isi, e_tupT, e_nilT, e_consT, e_lstN, e_dic0, e_fnN, e_callN, e_fzN, e_seqO, e_itA, e_for, e_attr, e_raise, e_make, e_part, e_slice, e_ixM, e_setIx, e_append, e_popAt, e_lenM, e_fz, e_call, e_prop, e_getM, e_putM, e_getD, e_ixD, e_inD, e_methS0, e_fldSet, e_callO, e_callS, e_seqN, e_opN, vv_gt, vv_ge, vv_geS, vv_lt, vv_le, vv_add, vv_addL, vv_addT, vv_sub, vv_neg, vv_abs, vv_int, vv_intb, vv_lenL, vv_lenT, vv_lenS, vv_ixL, vv_ixT, vv_b, vv_tup, vv_lst, vv_tupL, vv_tupT, vv_listN, vv_seqL, vv_seqT, vv_asc, vv_alpha, vv_lower, vv_strS, vv_moL, vv_moD, vv_tyI, vv_tyB, vv_tyS, vv_tyL, vv_tyT, vv_tyD, vv_tyN, vv_min, vv_max, vv_keys, vv_asI, vv_k1, vv_k2, vv_eq, vv_ne, vv_eqI, vv_ii, vv_ib, vv_bi, vv_bb, vv_tt, vv_ss, vv_dd, ixN, lstAt, dicAt, atI_0, atI_1, atI_2, outs, getMs, putM, putMs, ownB, isM, isS, okF, okI, sizeLine, Int.add_comm]
/-! ### shown -/
theorem wt_int {i : Int} (h : i.natAbs < 2 ^ 100) : wt (.int i) ≤ 104 := by
  have := log2_lt h (by decide)
  simp only [wt]
  omega
theorem wt_psD : ∀ {ps : Prs}, (∀ x ∈ nms ps, x.length ≤ 8) → (∀ p ∈ ps, p.2.natAbs < 2 ^ 100) → wtA (toPs (psD ps)) ≤ 123 * ps.length
  | [], _, _ => by simp [psD, toPs, wtA]
  | p :: r, h1, h2 => by
    have ih := wt_psD (ps := r) (fun x hx => h1 x (List.mem_cons_of_mem _ hx)) fun q hq => h2 q (List.mem_cons_of_mem _ hq)
    have l := h1 p.1 List.mem_cons_self
    have k := wt_int (h2 p List.mem_cons_self)
    unfold psD at ih
    simp only [wt] at k
    simp only [psD, List.map_cons, pD, toPs, toP, wtA, wt, List.length_cons]
    omega
theorem asc_psD : ∀ {ps : Prs}, (∀ x ∈ nms ps, ascT x = true) → ascA (toPs (psD ps)) = true
  | [], _ => by simp [psD, toPs, ascA]
  | p :: r, h => by
    have ih := asc_psD (ps := r) fun x hx => h x (List.mem_cons_of_mem _ hx)
    have l := h p.1 List.mem_cons_self
    unfold psD at ih
    simp [psD, pD, toPs, toP, ascA, asc, l, ih]
theorem repr_law {ps : Prs} {k : Int} (hp : Good ps) (hb : Small ps) (hk : k.natAbs < 2 ^ 100) (hl : ps.length ≤ 10) : reprF [LawD ps k] = some (.str (toP (LawD ps k)).shown) := by
  have h1 := plain_psD ps
  have w := wt_psD (fun x hx => (hp.nm x hx).l) hb.b
  have wk := wt_int hk
  have d := dep_psD ps
  have s := asc_psD fun x hx => (hp.nm x hx).w
  show (if _ then _ else _) = _
  rw [if_pos]
  unfold gdB LawD
  simp only [wt] at wk
  have d1 : (toP (.tup true [.tup true (psD ps), .int k])).depth ≤ 60 := by
    simp only [toP, toPs, PyData.depth, PyData.depthAll]
    omega
  have w1 : wt (toP (.tup true [.tup true (psD ps), .int k])) ≤ 1900 := by
    simp only [toP, toPs, wt, wtA]
    omega
  have s1 : asc (toP (.tup true [.tup true (psD ps), .int k])) = true := by
    simp [toP, toPs, asc, ascA, s]
  have p1 : DL.plain (.tup true [.tup true (psD ps), .int k]) = true := by
    simp [DL.plain, DL.plainS, h1]
  rw [p1, s1, decide_eq_true d1, decide_eq_true w1]
  rfl
theorem repr_int {k : Int} (hk : k.natAbs < 2 ^ 100) : reprF [.int k] = some (.str (toP (.int k)).shown) := by
  have wk := wt_int hk
  show (if _ then _ else _) = _
  rw [if_pos]
  unfold gdB
  have w1 : wt (toP (.int k)) ≤ 1900 := Nat.le_trans wk (by decide)
  rw [decide_eq_true w1]
  rfl
/-! ### what the law looks at -/
theorem law_is_made_ok {vs ps : Prs} {k : Int} (hv : Vals vs) (hp : Good ps) (hb : Small ps) (hs : ∀ x ∈ nms ps, x ∈ nms vs) (hk : k.natAbs < 2 ^ 100) (hl : ps.length ≤ 10) (he : (k + evP vs ps).natAbs < 2 ^ 100) :
    F_law_is_made [] [SumD ps k, LawD ps k, .dic (dD vs)] = some (.ok (.bl true) []) := by
  have e1 := law_pair_ok (ps := ps) (k := k)
  have e2 := repr_law (k := k) hp hb hk hl
  have e3 := call_ok (a := k) hv hp hb hs
  have e4 := law_comes_ok (a := k) hv hb.b hs hp.l
  have e5 := repr_int he
  have ha : asc (toP (LawD ps k)) = true := by
    have s := asc_psD fun x hx => (hp.nm x hx).w
    simp [LawD, toP, toPs, asc, ascA, s]
  have e6 := eqB_shown (x := LawD ps k) rfl ha
  have e7 := eqB_shown (x := .int (k + evP vs ps)) rfl rfl
  generalize (toP (LawD ps k)).shown = t1 at e2 e6
  generalize (toP (.int (k + evP vs ps))).shown = t2 at e5 e7
  unfold F_law_is_made runF
  generalize LawD ps k = L at *
  generalize hS : SumD ps k = S at *
  unfold SumD at hS
  subst hS
  simp [m_law_is_made, e1, e2, e3, e4, e5, e6, e7, resM, e_ret, e_lift, e_bnd, e_var, e_C, e_op, e_un, e_nil, e_cons, e_fn, e_test, e_notT, e_andT, e_orT, e_notV, e_andV, e_orV, e_if, e_tt, e_ff, e_chain, e_tup, e_lst, e_next, e_seq, e_nx, e_rt, e_drop, e_mret, e_retN, e_set, e_asg, e_par, e_par3, e_par2N, e_setD, e_setM, e_own, e_isi, e_tupT, e_nilT, e_consT, e_lstN, e_dic0, e_fnN, e_callN, e_fzN, e_seqO, e_itA, e_for, e_attr, e_raise, e_make, e_part, e_slice, e_ixM, e_setIx, e_append, e_popAt, e_lenM, e_fz, e_call, e_prop, e_getM, e_putM, e_getD, e_ixD, e_inD, e_methS0, e_fldSet, e_callO, e_callS, e_seqN, e_opN, vv_gt, vv_ge, vv_geS, vv_lt, vv_le, vv_add, vv_addL, vv_addT, vv_sub, vv_neg, vv_abs, vv_int, vv_intb, vv_lenL, vv_lenT, vv_lenS, vv_ixL, vv_ixT, vv_b, vv_tup, vv_lst, vv_tupL, vv_tupT, vv_listN, vv_seqL, vv_seqT, vv_asc, vv_alpha, vv_lower, vv_strS, vv_moL, vv_moD, vv_tyI, vv_tyB, vv_tyS, vv_tyL, vv_tyT, vv_tyD, vv_tyN, vv_min, vv_max, vv_keys, vv_asI, vv_k1, vv_k2, vv_eq, vv_ne, vv_eqI, vv_ii, vv_ib, vv_bi, vv_bb, vv_tt, vv_ss, vv_dd, ixN, lstAt, dicAt, atI_0, atI_1, atI_2, outs, getMs, putM, putMs, ownB, isM, isS, okF, okI, sizeLine]
end K04

set_option Elab.async false
set_option linter.all false
set_option maxRecDepth 100000
set_option maxHeartbeats 1000000
namespace K04
open PySem PySem.Spec PyProof.Rows L2 GX DL
/-! ### what is drawn -/
theorem strs_of {P : List Str} : ∀ {ds : List Dat}, (∀ d ∈ ds, ∃ x ∈ P, d = .str x) → ∃ xs : List Str, ds = xs.map Dat.str ∧ ∀ x ∈ xs, x ∈ P
  | [], _ => ⟨[], rfl, fun _ h => by cases h⟩
  | d :: r, h => by
    obtain ⟨x, hx, rfl⟩ := h d List.mem_cons_self
    obtain ⟨xs, rfl, h2⟩ := strs_of (ds := r) fun d hd => h d (List.mem_cons_of_mem _ hd)
    exact ⟨x :: xs, rfl, fun y hy => (List.mem_cons.mp hy).elim (fun e => e ▸ hx) (h2 y)⟩
/-- drawn names: each once, of the pool -/
theorem some_strs {k n : Nat} {j : Int} {o : MO} {P : List Str} (hj : j = n) (h : PotOk k o) (hk : k + n < 1000000) (hn : n ≤ P.length) (hp : P.length < 1000000) (nd : P.Nodup) :
    ∃ (xs : List Str) (o' : MO), F_law_some [o] [.lst (P.map Dat.str), .int j] = some (.ok (.lst (xs.map Dat.str)) [o']) ∧ PotOk (k + n) o' ∧ xs.length = n ∧ xs.Nodup ∧ ∀ x ∈ xs, x ∈ P := by
  obtain ⟨found, o', e, p, hl, left, pm⟩ := some_ok (pool := P.map Dat.str) hj h hk (by simpa using hn) (by simpa using hp)
  obtain ⟨xs, rfl, hm⟩ := strs_of (P := P) (ds := found) fun d hd => by
    obtain ⟨x, hx, rfl⟩ := List.mem_map.mp (pm.mem_iff.mp (List.mem_append_left left hd))
    exact ⟨x, hx, rfl⟩
  refine ⟨xs, o', e, p, by simpa using hl, ?_, hm⟩
  have n1 : (P.map Dat.str).Nodup := List.Pairwise.map _ (fun a b h e => h (by cases e; rfl)) nd
  have n2 : (xs.map Dat.str ++ left).Nodup := pm.nodup_iff.mpr n1
  exact (List.pairwise_map.mp (List.nodup_append.mp n2).1).imp fun h e => h (by rw [e])
def pool : List Str := ["x", "r", "a", "b", "own", "draw", "sum", "hand", "call", "burn", "people", "zzzzzzzz", "round", "next"]
theorem pool_nodup : pool.Nodup := by decide +kernel
theorem pool_nm : ∀ x ∈ pool ++ (["zq"] : List Str), NmOk x := by
  have h : ∀ x ∈ pool ++ (["zq"] : List Str), (Txt.isascii x && Txt.isalpha x && Txt.islower x && decide (x.length ≤ 8) && ascT x) = true := by decide +kernel
  intro x hx
  have := h x hx
  simp only [Bool.and_eq_true, decide_eq_true_eq] at this
  obtain ⟨⟨⟨⟨h1, h2⟩, h3⟩, h4⟩, h5⟩ := this
  exact ⟨h1, h2, h3, h4, h5⟩
theorem names_ok {k : Nat} {o : MO} (h : PotOk k o) (hk : k < 900000) : ∃ (xs : List Str) (o' : MO), F_law_names [o] [.int 5] = some (.ok (.lst (xs.map Dat.str)) [o']) ∧ PotOk (k + 5) o' ∧ xs.length = 5 ∧ xs.Nodup ∧ ∀ x ∈ xs, x ∈ pool := by
  obtain ⟨xs, o', e, p, hl, nd, hm⟩ := some_strs (j := 5) (n := 5) (P := pool) rfl h (by omega) (by decide) (by decide) pool_nodup
  refine ⟨xs, o', ?_, p, hl, nd, hm⟩
  unfold F_law_names runF
  simp only [m_law_names, List.map_cons, List.map_nil, List.replicate, List.length_cons, List.length_nil, List.append_nil, List.nil_append, List.cons_append]
  simp only [pool, List.map_cons, List.map_nil] at e
  simp [e, e_ret, e_lift, e_bnd, e_var, e_C, e_op, e_un, e_nil, e_cons, e_fn, e_test, e_notT, e_andT, e_orT, e_notV, e_andV, e_orV, e_if, e_tt, e_ff, e_chain, e_tup, e_lst, e_next, e_seq, e_nx, e_rt, e_drop, e_mret, e_retN, e_set, e_asg, e_par, e_par3, e_par2N, e_setD, e_setM, e_own, e_isi, e_tupT, e_nilT, e_consT, e_lstN, e_dic0, e_fnN, e_callN, e_fzN, e_seqO, e_itA, e_for, e_attr, e_raise, e_make, e_part, e_slice, e_ixM, e_setIx, e_append, e_popAt, e_lenM, e_fz, e_call, e_prop, e_getM, e_putM, e_getD, e_ixD, e_inD, e_methS0, e_fldSet, e_callO, e_callS, e_seqN, e_opN, vv_gt, vv_ge, vv_geS, vv_lt, vv_le, vv_add, vv_addL, vv_addT, vv_sub, vv_neg, vv_abs, vv_int, vv_intb, vv_lenL, vv_lenT, vv_lenS, vv_ixL, vv_ixT, vv_b, vv_tup, vv_lst, vv_tupL, vv_tupT, vv_listN, vv_seqL, vv_seqT, vv_asc, vv_alpha, vv_lower, vv_strS, vv_moL, vv_moD, vv_tyI, vv_tyB, vv_tyS, vv_tyL, vv_tyT, vv_tyD, vv_tyN, vv_min, vv_max, vv_keys, vv_asI, vv_k1, vv_k2, vv_eq, vv_ne, vv_eqI, vv_ii, vv_ib, vv_bi, vv_bb, vv_tt, vv_ss, vv_dd, ixN, lstAt, dicAt, atI_0, atI_1, atI_2, outs, getMs, putM, putMs, ownB, isM, isS, okF, okI, sizeLine]
theorem many_ok {k : Nat} {o : MO} (h : PotOk k o) (hk : k < 900000) : ∃ (m : Int) (o' : MO), F_law_many [o] [] = some (.ok (.int m) [o']) ∧ PotOk (k + 1) o' ∧ m.natAbs ≤ 9 := by
  obtain ⟨x, o', e, hx, p⟩ := of_ok (xs := [.int 1, .int 1, .int (-1), .int 2, .int 1, .int (-2), .int 3, .int 4, .int 6, .int (-3), .int 5, .int 9, .int (-9), .int 8]) h (by omega) (by decide) (by decide)
  have hm : ∃ m : Int, x = .int m ∧ m.natAbs ≤ 9 := by
    simp only [List.mem_cons, List.not_mem_nil, or_false] at hx
    rcases hx with rfl | rfl | rfl | rfl | rfl | rfl | rfl | rfl | rfl | rfl | rfl | rfl | rfl | rfl <;> exact ⟨_, rfl, by decide⟩
  obtain ⟨m, rfl, hm⟩ := hm
  refine ⟨m, o', ?_, p, hm⟩
  unfold F_law_many runF
  simp only [m_law_many, List.map_cons, List.map_nil, List.replicate, List.length_cons, List.length_nil, List.append_nil, List.nil_append, List.cons_append]
  simp [e, e_ret, e_lift, e_bnd, e_var, e_C, e_op, e_un, e_nil, e_cons, e_fn, e_test, e_notT, e_andT, e_orT, e_notV, e_andV, e_orV, e_if, e_tt, e_ff, e_chain, e_tup, e_lst, e_next, e_seq, e_nx, e_rt, e_drop, e_mret, e_retN, e_set, e_asg, e_par, e_par3, e_par2N, e_setD, e_setM, e_own, e_isi, e_tupT, e_nilT, e_consT, e_lstN, e_dic0, e_fnN, e_callN, e_fzN, e_seqO, e_itA, e_for, e_attr, e_raise, e_make, e_part, e_slice, e_ixM, e_setIx, e_append, e_popAt, e_lenM, e_fz, e_call, e_prop, e_getM, e_putM, e_getD, e_ixD, e_inD, e_methS0, e_fldSet, e_callO, e_callS, e_seqN, e_opN, vv_gt, vv_ge, vv_geS, vv_lt, vv_le, vv_add, vv_addL, vv_addT, vv_sub, vv_neg, vv_abs, vv_int, vv_intb, vv_lenL, vv_lenT, vv_lenS, vv_ixL, vv_ixT, vv_b, vv_tup, vv_lst, vv_tupL, vv_tupT, vv_listN, vv_seqL, vv_seqT, vv_asc, vv_alpha, vv_lower, vv_strS, vv_moL, vv_moD, vv_tyI, vv_tyB, vv_tyS, vv_tyL, vv_tyT, vv_tyD, vv_tyN, vv_min, vv_max, vv_keys, vv_asI, vv_k1, vv_k2, vv_eq, vv_ne, vv_eqI, vv_ii, vv_ib, vv_bi, vv_bb, vv_tt, vv_ss, vv_dd, ixN, lstAt, dicAt, atI_0, atI_1, atI_2, outs, getMs, putM, putMs, ownB, isM, isS, okF, okI, sizeLine]
/-- a sum that is drawn: of some of the names, each once -/
structure Drawn (N : List Str) (ps : Prs) : Prop where
  g : Good ps
  b : ∀ p ∈ ps, p.2.natAbs ≤ 9
  s : ∀ x ∈ nms ps, x ∈ N
theorem NF_drawn {N : List Str} {ps : Prs} (hN : N.length < 64) (nm : ∀ x ∈ N, NmOk x) (s : ∀ x ∈ nms ps, x ∈ N) (n : (nms ps).Nodup) (b : ∀ p ∈ ps, p.2.natAbs ≤ 9) : Drawn N (NF ps) := by
  have hl : (nms ps).length ≤ N.length := sub_len n s
  have hl' : ps.length = (nms ps).length := by simp [nms]
  refine ⟨NF_good (fun x hx => nm x (s x hx)) (by omega), fun p hp => ?_, fun x hx => s x (NF_nms hx)⟩
  have e := cnt_mem (nrm_NF ps).nodup hp
  rw [cnt_NF] at e
  by_cases m : p.1 ∈ nms ps
  · obtain ⟨q, hq, e2⟩ := List.mem_map.mp m
    have e3 := cnt_mem n hq
    have : p.2 = q.2 := by rw [← e, ← e3, e2]
    rw [this]
    exact b q hq
  · rw [cnt_none m] at e
    rw [← e]
    decide
theorem some_sum_ok {k : Nat} {o : MO} {N : List Str} (h : PotOk k o) (hk : k < 800000) (hN : N.length < 64) (nd : N.Nodup) (nm : ∀ x ∈ N, NmOk x) :
    ∃ (ps : Prs) (m : Int) (o' : MO), F_law_some_sum [o] [.lst (N.map Dat.str), .int 4] = some (.ok (LawD ps m) [o']) ∧ PotOk (k + 200) o' ∧ Drawn N ps ∧ m.natAbs ≤ 99 := by
  obtain ⟨r, o1, e1, r0, r1, p1⟩ := take_ok (n := 5) h (by omega) (by decide) (by decide)
  have hmin : ∃ n : Nat, n ≤ N.length ∧ (if r < ((N.length : Nat) : Int) then r else ((N.length : Nat) : Int)) = (n : Int) := by
    split
    · exact ⟨r.toNat, by omega, by omega⟩
    · exact ⟨N.length, by omega, rfl⟩
  obtain ⟨n, hn, hmin⟩ := hmin
  obtain ⟨xs, o2, e2, p2, xl, xn, xm⟩ := some_strs (j := (if r < ((N.length : Nat) : Int) then r else ((N.length : Nat) : Int))) hmin p1 (by omega) hn (by omega) nd
  -- the pairs
  have lc := mLc_inv (vs := [4]) (t := setD 4) (mt := DL.ret true) (me := mTup (mCons (mVar 4) (mCons (mCall [0] (okF F_law_many) [] mNil) mNil))) (it := mSeqO seqD (mVar 3))
    (g := [Sl.m true o2, .d (.lst (N.map Dat.str)), .d (.int 4), .d (.lst (xs.map Dat.str)), .no]) (g' := [Sl.m true o2, .d (.lst (N.map Dat.str)), .d (.int 4), .d (.lst (xs.map Dat.str)), .no]) (ds := xs.map Dat.str)
    (fun r acc g => ∃ (o : MO) (ts : Prs) (ys : List Str), g = [Sl.m true o, .d (.lst (N.map Dat.str)), .d (.int 4), .d (.lst (xs.map Dat.str)), .no] ∧ PotOk (k + 1 + n + acc.length) o ∧ acc = psD ts ∧ r = ys.map Dat.str ∧ nms ts ++ ys = xs ∧ ∀ p ∈ ts, p.2.natAbs ≤ 9)
    (by simp [e_ret, e_lift, e_bnd, e_var, e_C, e_op, e_un, e_nil, e_cons, e_fn, e_test, e_notT, e_andT, e_orT, e_notV, e_andV, e_orV, e_if, e_tt, e_ff, e_chain, e_tup, e_lst, e_next, e_seq, e_nx, e_rt, e_drop, e_mret, e_retN, e_set, e_asg, e_par, e_par3, e_par2N, e_setD, e_setM, e_own, e_isi, e_tupT, e_nilT, e_consT, e_lstN, e_dic0, e_fnN, e_callN, e_fzN, e_seqO, e_itA, e_for, e_attr, e_raise, e_make, e_part, e_slice, e_ixM, e_setIx, e_append, e_popAt, e_lenM, e_fz, e_call, e_prop, e_getM, e_putM, e_getD, e_ixD, e_inD, e_methS0, e_fldSet, e_callO, e_callS, e_seqN, e_opN, vv_gt, vv_ge, vv_geS, vv_lt, vv_le, vv_add, vv_addL, vv_addT, vv_sub, vv_neg, vv_abs, vv_int, vv_intb, vv_lenL, vv_lenT, vv_lenS, vv_ixL, vv_ixT, vv_b, vv_tup, vv_lst, vv_tupL, vv_tupT, vv_listN, vv_seqL, vv_seqT, vv_asc, vv_alpha, vv_lower, vv_strS, vv_moL, vv_moD, vv_tyI, vv_tyB, vv_tyS, vv_tyL, vv_tyT, vv_tyD, vv_tyN, vv_min, vv_max, vv_keys, vv_asI, vv_k1, vv_k2, vv_eq, vv_ne, vv_eqI, vv_ii, vv_ib, vv_bi, vv_bb, vv_tt, vv_ss, vv_dd, ixN, lstAt, dicAt, atI_0, atI_1, atI_2, outs, getMs, putM, putMs, ownB, isM, isS, okF, okI, sizeLine]) rfl ⟨o2, [], xs, rfl, by simpa using p2, rfl, rfl, rfl, fun _ h => by cases h⟩
    (fun d r acc g ⟨o, ts, ys, hg, ho, ha, hr, hxy, hb⟩ => by
      cases ys with
      | nil => cases hr
      | cons y ys =>
        cases hr
        have hl : acc.length < 64 := by
          have := congrArg List.length hxy
          rw [List.length_append, List.length_cons] at this
          have z : acc.length = (nms ts).length := by rw [ha]; simp [psD, nms]
          omega
        obtain ⟨m, o3, e3, p3, hm⟩ := many_ok ho (by omega)
        refine ⟨by unfold sizeLine; omega, [Sl.m true o, .d (.lst (N.map Dat.str)), .d (.int 4), .d (.lst (xs.map Dat.str)), .d (.str y)], true, _, ?_, rfl, ?_⟩
        · subst hg; simp [e_ret, e_lift, e_bnd, e_var, e_C, e_op, e_un, e_nil, e_cons, e_fn, e_test, e_notT, e_andT, e_orT, e_notV, e_andV, e_orV, e_if, e_tt, e_ff, e_chain, e_tup, e_lst, e_next, e_seq, e_nx, e_rt, e_drop, e_mret, e_retN, e_set, e_asg, e_par, e_par3, e_par2N, e_setD, e_setM, e_own, e_isi, e_tupT, e_nilT, e_consT, e_lstN, e_dic0, e_fnN, e_callN, e_fzN, e_seqO, e_itA, e_for, e_attr, e_raise, e_make, e_part, e_slice, e_ixM, e_setIx, e_append, e_popAt, e_lenM, e_fz, e_call, e_prop, e_getM, e_putM, e_getD, e_ixD, e_inD, e_methS0, e_fldSet, e_callO, e_callS, e_seqN, e_opN, vv_gt, vv_ge, vv_geS, vv_lt, vv_le, vv_add, vv_addL, vv_addT, vv_sub, vv_neg, vv_abs, vv_int, vv_intb, vv_lenL, vv_lenT, vv_lenS, vv_ixL, vv_ixT, vv_b, vv_tup, vv_lst, vv_tupL, vv_tupT, vv_listN, vv_seqL, vv_seqT, vv_asc, vv_alpha, vv_lower, vv_strS, vv_moL, vv_moD, vv_tyI, vv_tyB, vv_tyS, vv_tyL, vv_tyT, vv_tyD, vv_tyN, vv_min, vv_max, vv_keys, vv_asI, vv_k1, vv_k2, vv_eq, vv_ne, vv_eqI, vv_ii, vv_ib, vv_bi, vv_bb, vv_tt, vv_ss, vv_dd, ixN, lstAt, dicAt, atI_0, atI_1, atI_2, outs, getMs, putM, putMs, ownB, isM, isS, okF, okI, sizeLine]
        · rw [if_pos rfl]
          refine ⟨pD (y, m), [Sl.m true o3, .d (.lst (N.map Dat.str)), .d (.int 4), .d (.lst (xs.map Dat.str)), .d (.str y)], ?_, o3, ts ++ [(y, m)], ys, rfl, ?_, ?_, rfl, ?_, ?_⟩
          · simp [e3, pD, e_ret, e_lift, e_bnd, e_var, e_C, e_op, e_un, e_nil, e_cons, e_fn, e_test, e_notT, e_andT, e_orT, e_notV, e_andV, e_orV, e_if, e_tt, e_ff, e_chain, e_tup, e_lst, e_next, e_seq, e_nx, e_rt, e_drop, e_mret, e_retN, e_set, e_asg, e_par, e_par3, e_par2N, e_setD, e_setM, e_own, e_isi, e_tupT, e_nilT, e_consT, e_lstN, e_dic0, e_fnN, e_callN, e_fzN, e_seqO, e_itA, e_for, e_attr, e_raise, e_make, e_part, e_slice, e_ixM, e_setIx, e_append, e_popAt, e_lenM, e_fz, e_call, e_prop, e_getM, e_putM, e_getD, e_ixD, e_inD, e_methS0, e_fldSet, e_callO, e_callS, e_seqN, e_opN, vv_gt, vv_ge, vv_geS, vv_lt, vv_le, vv_add, vv_addL, vv_addT, vv_sub, vv_neg, vv_abs, vv_int, vv_intb, vv_lenL, vv_lenT, vv_lenS, vv_ixL, vv_ixT, vv_b, vv_tup, vv_lst, vv_tupL, vv_tupT, vv_listN, vv_seqL, vv_seqT, vv_asc, vv_alpha, vv_lower, vv_strS, vv_moL, vv_moD, vv_tyI, vv_tyB, vv_tyS, vv_tyL, vv_tyT, vv_tyD, vv_tyN, vv_min, vv_max, vv_keys, vv_asI, vv_k1, vv_k2, vv_eq, vv_ne, vv_eqI, vv_ii, vv_ib, vv_bi, vv_bb, vv_tt, vv_ss, vv_dd, ixN, lstAt, dicAt, atI_0, atI_1, atI_2, outs, getMs, putM, putMs, ownB, isM, isS, okF, okI, sizeLine]
          · rw [List.length_append]; exact p3
          · rw [ha]; simp [psD]
          · rw [← hxy]; simp [nms]
          · intro p hp
            rcases List.mem_append.mp hp with z | z
            · exact hb p z
            · rw [List.mem_singleton] at z; subst z; exact hm)
  obtain ⟨ys, g2, elc, o3, ts, ys', hg2, p3, hys, hr, hxs, hb⟩ := lc
  have : ys' = [] := by cases ys' with
    | nil => rfl
    | cons _ _ => cases hr
  subst this
  rw [List.append_nil] at hxs
  have tl : ts.length = n := by rw [← xl, ← hxs]; simp [nms]
  have pl : ys.length = n := by rw [hys]; simpa [psD] using tl
  obtain ⟨x, o4, e4, hx, p4⟩ := of_ok (xs := [.int 0, .int 0, .int 0, .int 1, .int (-1), .int 5, .int (-99), .int 99]) p3 (by omega) (by decide) (by decide)
  have hm : ∃ m : Int, x = .int m ∧ m.natAbs ≤ 99 := by
    simp only [List.mem_cons, List.not_mem_nil, or_false] at hx
    rcases hx with rfl | rfl | rfl | rfl | rfl | rfl | rfl | rfl <;> exact ⟨_, rfl, by decide⟩
  obtain ⟨m, rfl, hm⟩ := hm
  have e5 := law_sum_ok (d := .lst (psD ts)) (ps := ts) (k := m) rfl (fun p hp => Nat.lt_of_le_of_lt (hb p hp) (by decide)) (by omega)
  rw [hys] at elc
  refine ⟨NF ts, m, o4, ?_, p4.mono (by omega), NF_drawn hN nm (fun y hy => ?_) (by rw [hxs]; exact xn) hb, hm⟩
  · unfold F_law_some_sum runF
    simp only [m_law_some_sum, List.map_cons, List.map_nil, List.replicate, List.length_cons, List.length_nil, List.append_nil, List.nil_append, List.cons_append]

    simp [e1, e2, elc, e4, e5, hg2, backG, e_ret, e_lift, e_bnd, e_var, e_C, e_op, e_un, e_nil, e_cons, e_fn, e_test, e_notT, e_andT, e_orT, e_notV, e_andV, e_orV, e_if, e_tt, e_ff, e_chain, e_tup, e_lst, e_next, e_seq, e_nx, e_rt, e_drop, e_mret, e_retN, e_set, e_asg, e_par, e_par3, e_par2N, e_setD, e_setM, e_own, e_isi, e_tupT, e_nilT, e_consT, e_lstN, e_dic0, e_fnN, e_callN, e_fzN, e_seqO, e_itA, e_for, e_attr, e_raise, e_make, e_part, e_slice, e_ixM, e_setIx, e_append, e_popAt, e_lenM, e_fz, e_call, e_prop, e_getM, e_putM, e_getD, e_ixD, e_inD, e_methS0, e_fldSet, e_callO, e_callS, e_seqN, e_opN, vv_gt, vv_ge, vv_geS, vv_lt, vv_le, vv_add, vv_addL, vv_addT, vv_sub, vv_neg, vv_abs, vv_int, vv_intb, vv_lenL, vv_lenT, vv_lenS, vv_ixL, vv_ixT, vv_b, vv_tup, vv_lst, vv_tupL, vv_tupT, vv_listN, vv_seqL, vv_seqT, vv_asc, vv_alpha, vv_lower, vv_strS, vv_moL, vv_moD, vv_tyI, vv_tyB, vv_tyS, vv_tyL, vv_tyT, vv_tyD, vv_tyN, vv_min, vv_max, vv_keys, vv_asI, vv_k1, vv_k2, vv_eq, vv_ne, vv_eqI, vv_ii, vv_ib, vv_bi, vv_bb, vv_tt, vv_ss, vv_dd, ixN, lstAt, dicAt, atI_0, atI_1, atI_2, outs, getMs, putM, putMs, ownB, isM, isS, okF, okI, sizeLine]
  · rw [hxs] at hy; exact xm y hy
end K04

set_option Elab.async false
set_option linter.all false
set_option maxRecDepth 100000
set_option maxHeartbeats 2000000
namespace K04
open PySem PySem.Spec PyProof.Rows L2 GX DL
theorem callS_S {F : FM} {ml : M (List Dat)} {ps : Prs} {a : Int} {g : Frm} : callS "Sum" F ml (SumD ps a) g = bnd ml (fun ds g => resM g (F [] (SumD ps a :: ds))) g := by
  unfold SumD
  simp [e_callS]
theorem un_S {F : FM} {f : Dat → Option Dat} {ps : Prs} {a : Int} {z : Dat} (h : F [] [SumD ps a] = some (.ok z [])) : unOwn "Sum" F f (SumD ps a) = some z := by
  unfold SumD at *
  simp [unOwn, h, okV]
/-! ### the numbers of the names -/
theorem vals_ok {k : Nat} {o : MO} {N : List Str} {g : Frm} (rest : List Sl) (h : PotOk k o) (hk : k < 800000) (hl : N.length = 5) (nd : N.Nodup) (hp : ∀ x ∈ N, x ∈ pool) (x2 x3 x4 x5 x6 : Dat) :
    ∃ (vs : Prs) (o' : MO), mLc [8] (mSeqO seqD (mOp addF (mVar 1) (mLst (mCons (mC (.str "zq")) mNil)))) (setD 8) (DL.ret true) (mTup (mCons (mVar 8) (mCons (mCall [0] (okF F_law_of) [] (mCons (mLst (mCons (mC (.int 0)) (mCons (mC (.int 1)) (mCons (mUn negF (mC (.int 1))) (mCons (mC (.int 5)) (mCons (mC (.int 12)) (mCons (mUn negF (mC (.int 7))) (mCons (mC (.int 999)) (mCons (mOp powF (mC (.int 10)) (mC (.int 8))) mNil))))))))) mNil)) mNil)))
      [Sl.m true o, .d (.lst (N.map Dat.str)), .d x2, .d x3, .d x4, .d x5, .d x6, .no, .no, .no, .no, .no, .no] = some (.ok (.lst (psD vs)) [Sl.m true o', .d (.lst (N.map Dat.str)), .d x2, .d x3, .d x4, .d x5, .d x6, .no, .no, .no, .no, .no, .no]) ∧ PotOk (k + 6) o' ∧ nms vs = N ++ (["zq"] : List Str) ∧ Vals vs ∧ (∀ p ∈ vs, p.2.natAbs ≤ 10 ^ 8) := by
  have zn : ("zq" : Str) ∉ pool := by decide +kernel
  have nz : (N ++ (["zq"] : List Str)).Nodup := by
    rw [List.nodup_append]
    exact ⟨nd, by simp, fun a ha b hb e => by
      rw [List.mem_singleton] at hb
      subst hb; subst e
      exact zn (hp _ ha)⟩
  have lc := mLc_inv (vs := [8]) (t := setD 8) (mt := DL.ret true) (me := (mTup (mCons (mVar 8) (mCons (mCall [0] (okF F_law_of) [] (mCons (mLst (mCons (mC (.int 0)) (mCons (mC (.int 1)) (mCons (mUn negF (mC (.int 1))) (mCons (mC (.int 5)) (mCons (mC (.int 12)) (mCons (mUn negF (mC (.int 7))) (mCons (mC (.int 999)) (mCons (mOp powF (mC (.int 10)) (mC (.int 8))) mNil))))))))) mNil)) mNil)))) (it := mSeqO seqD (mOp addF (mVar 1) (mLst (mCons (mC (.str "zq")) mNil))))
    (g := [Sl.m true o, .d (.lst (N.map Dat.str)), .d x2, .d x3, .d x4, .d x5, .d x6, .no, .no, .no, .no, .no, .no]) (g' := [Sl.m true o, .d (.lst (N.map Dat.str)), .d x2, .d x3, .d x4, .d x5, .d x6, .no, .no, .no, .no, .no, .no]) (ds := (N ++ (["zq"] : List Str)).map Dat.str)
    (fun r acc g => ∃ (o : MO) (ts : Prs) (ys : List Str), g = [Sl.m true o, .d (.lst (N.map Dat.str)), .d x2, .d x3, .d x4, .d x5, .d x6, .no, .no, .no, .no, .no, .no] ∧ PotOk (k + acc.length) o ∧ acc = psD ts ∧ r = ys.map Dat.str ∧ nms ts ++ ys = N ++ (["zq"] : List Str) ∧ ∀ p ∈ ts, p.2.natAbs ≤ 10 ^ 8)
    (by
      have l1 : (N.map Dat.str).length + 1 ≤ 2 ^ 24 := by rw [List.length_map, hl]; decide
      simp at l1
      simp [l1, e_ret, e_lift, e_bnd, e_var, e_C, e_op, e_un, e_nil, e_cons, e_fn, e_test, e_notT, e_andT, e_orT, e_notV, e_andV, e_orV, e_if, e_tt, e_ff, e_chain, e_tup, e_lst, e_next, e_seq, e_nx, e_rt, e_drop, e_mret, e_retN, e_set, e_asg, e_par, e_par3, e_par2N, e_setD, e_setM, e_own, e_isi, e_tupT, e_nilT, e_consT, e_lstN, e_dic0, e_fnN, e_callN, e_fzN, e_seqO, e_itA, e_for, e_attr, e_raise, e_make, e_part, e_slice, e_ixM, e_setIx, e_append, e_popAt, e_lenM, e_fz, e_call, e_prop, e_getM, e_putM, e_getD, e_ixD, e_inD, e_methS0, e_fldSet, e_callO, e_callS, e_seqN, e_opN, vv_gt, vv_ge, vv_geS, vv_lt, vv_le, vv_add, vv_addL, vv_addT, vv_sub, vv_neg, vv_abs, vv_int, vv_intb, vv_lenL, vv_lenT, vv_lenS, vv_ixL, vv_ixT, vv_b, vv_tup, vv_lst, vv_tupL, vv_tupT, vv_listN, vv_seqL, vv_seqT, vv_asc, vv_alpha, vv_lower, vv_strS, vv_moL, vv_moD, vv_tyI, vv_tyB, vv_tyS, vv_tyL, vv_tyT, vv_tyD, vv_tyN, vv_min, vv_max, vv_keys, vv_asI, vv_k1, vv_k2, vv_eq, vv_ne, vv_eqI, vv_ii, vv_ib, vv_bi, vv_bb, vv_tt, vv_ss, vv_dd, ixN, lstAt, dicAt, atI_0, atI_1, atI_2, outs, getMs, putM, putMs, ownB, isM, isS, okF, okI, sizeLine]) rfl ⟨o, [], N ++ (["zq"] : List Str), rfl, by simpa using h, rfl, rfl, rfl, fun _ h => by cases h⟩
    (fun d r acc g ⟨o, ts, ys, hg, ho, ha, hr, hxy, hb⟩ => by
      cases ys with
      | nil => cases hr
      | cons y ys =>
        cases hr
        have hl : acc.length < 64 := by
          have := congrArg List.length hxy
          rw [List.length_append, List.length_cons, List.length_append] at this
          have z : acc.length = (nms ts).length := by rw [ha]; simp [psD, nms]
          simp at this
          omega
        obtain ⟨x, o3, e3, hx, p3⟩ := of_ok (xs := [.int 0, .int 1, .int (-1), .int 5, .int 12, .int (-7), .int 999, .int 100000000]) ho (by omega) (by decide) (by decide)
        have hm : ∃ m : Int, x = .int m ∧ m.natAbs ≤ 10 ^ 8 := by
          simp only [List.mem_cons, List.not_mem_nil, or_false] at hx
          rcases hx with rfl | rfl | rfl | rfl | rfl | rfl | rfl | rfl <;> exact ⟨_, rfl, by decide⟩
        obtain ⟨m, rfl, hm⟩ := hm
        have ep : powF (.int 10) (.int 8) = some (.int 100000000) := powF_ok (by decide) (by decide) (by decide)
        refine ⟨by unfold sizeLine; omega, [Sl.m true o, .d (.lst (N.map Dat.str)), .d x2, .d x3, .d x4, .d x5, .d x6, .no, .d (.str y), .no, .no, .no, .no], true, _, ?_, rfl, ?_⟩
        · subst hg; simp [e_ret, e_lift, e_bnd, e_var, e_C, e_op, e_un, e_nil, e_cons, e_fn, e_test, e_notT, e_andT, e_orT, e_notV, e_andV, e_orV, e_if, e_tt, e_ff, e_chain, e_tup, e_lst, e_next, e_seq, e_nx, e_rt, e_drop, e_mret, e_retN, e_set, e_asg, e_par, e_par3, e_par2N, e_setD, e_setM, e_own, e_isi, e_tupT, e_nilT, e_consT, e_lstN, e_dic0, e_fnN, e_callN, e_fzN, e_seqO, e_itA, e_for, e_attr, e_raise, e_make, e_part, e_slice, e_ixM, e_setIx, e_append, e_popAt, e_lenM, e_fz, e_call, e_prop, e_getM, e_putM, e_getD, e_ixD, e_inD, e_methS0, e_fldSet, e_callO, e_callS, e_seqN, e_opN, vv_gt, vv_ge, vv_geS, vv_lt, vv_le, vv_add, vv_addL, vv_addT, vv_sub, vv_neg, vv_abs, vv_int, vv_intb, vv_lenL, vv_lenT, vv_lenS, vv_ixL, vv_ixT, vv_b, vv_tup, vv_lst, vv_tupL, vv_tupT, vv_listN, vv_seqL, vv_seqT, vv_asc, vv_alpha, vv_lower, vv_strS, vv_moL, vv_moD, vv_tyI, vv_tyB, vv_tyS, vv_tyL, vv_tyT, vv_tyD, vv_tyN, vv_min, vv_max, vv_keys, vv_asI, vv_k1, vv_k2, vv_eq, vv_ne, vv_eqI, vv_ii, vv_ib, vv_bi, vv_bb, vv_tt, vv_ss, vv_dd, ixN, lstAt, dicAt, atI_0, atI_1, atI_2, outs, getMs, putM, putMs, ownB, isM, isS, okF, okI, sizeLine]
        · rw [if_pos rfl]
          refine ⟨pD (y, m), [Sl.m true o3, .d (.lst (N.map Dat.str)), .d x2, .d x3, .d x4, .d x5, .d x6, .no, .d (.str y), .no, .no, .no, .no], ?_, o3, ts ++ [(y, m)], ys, rfl, ?_, ?_, rfl, ?_, ?_⟩
          · simp [e3, ep, pD, e_ret, e_lift, e_bnd, e_var, e_C, e_op, e_un, e_nil, e_cons, e_fn, e_test, e_notT, e_andT, e_orT, e_notV, e_andV, e_orV, e_if, e_tt, e_ff, e_chain, e_tup, e_lst, e_next, e_seq, e_nx, e_rt, e_drop, e_mret, e_retN, e_set, e_asg, e_par, e_par3, e_par2N, e_setD, e_setM, e_own, e_isi, e_tupT, e_nilT, e_consT, e_lstN, e_dic0, e_fnN, e_callN, e_fzN, e_seqO, e_itA, e_for, e_attr, e_raise, e_make, e_part, e_slice, e_ixM, e_setIx, e_append, e_popAt, e_lenM, e_fz, e_call, e_prop, e_getM, e_putM, e_getD, e_ixD, e_inD, e_methS0, e_fldSet, e_callO, e_callS, e_seqN, e_opN, vv_gt, vv_ge, vv_geS, vv_lt, vv_le, vv_add, vv_addL, vv_addT, vv_sub, vv_neg, vv_abs, vv_int, vv_intb, vv_lenL, vv_lenT, vv_lenS, vv_ixL, vv_ixT, vv_b, vv_tup, vv_lst, vv_tupL, vv_tupT, vv_listN, vv_seqL, vv_seqT, vv_asc, vv_alpha, vv_lower, vv_strS, vv_moL, vv_moD, vv_tyI, vv_tyB, vv_tyS, vv_tyL, vv_tyT, vv_tyD, vv_tyN, vv_min, vv_max, vv_keys, vv_asI, vv_k1, vv_k2, vv_eq, vv_ne, vv_eqI, vv_ii, vv_ib, vv_bi, vv_bb, vv_tt, vv_ss, vv_dd, ixN, lstAt, dicAt, atI_0, atI_1, atI_2, outs, getMs, putM, putMs, ownB, isM, isS, okF, okI, sizeLine]
          · rw [List.length_append]; exact p3
          · rw [ha]; simp [psD]
          · rw [← hxy]; simp [nms]
          · intro p hp
            rcases List.mem_append.mp hp with z | z
            · exact hb p z
            · rw [List.mem_singleton] at z; subst z; exact hm)
  obtain ⟨ys, g2, elc, o3, ts, ys', hg2, p3, hys, hr, hxs, hb⟩ := lc
  have : ys' = [] := by cases ys' with
    | nil => rfl
    | cons _ _ => cases hr
  subst this
  rw [List.append_nil] at hxs
  have yl : ys.length = 6 := by
    have := congrArg List.length hxs
    rw [hys]
    simp [nms, hl] at this
    simp [psD, this]
  refine ⟨ts, o3, ?_, by rw [yl] at p3; exact p3, hxs, ⟨by rw [hxs]; exact nz, fun x hx => ?_, fun x => ?_⟩, hb⟩
  · rw [elc, hys, hg2]; rfl
  · rw [hxs] at hx
    refine pool_nm x ?_
    rcases List.mem_append.mp hx with z | z
    · exact List.mem_append_left _ (hp x z)
    · exact List.mem_append_right _ z
  · exact Nat.lt_of_le_of_lt (cnt_bound (by rw [hxs]; exact nz) hb x) (by decide)
end K04

set_option Elab.async false
set_option linter.all false
set_option maxRecDepth 100000
set_option maxHeartbeats 4000000
namespace K04
open PySem PySem.Spec PyProof.Rows L2 GX DL
section
variable {N : List Str} {vs : Prs} (hl : N.length = 5) (nd : N.Nodup) (nm : ∀ x ∈ N, NmOk x) (hv : Vals vs) (hs : ∀ x ∈ N, x ∈ nms vs) (hb : ∀ p ∈ vs, p.2.natAbs ≤ 10 ^ 8)
include hl nd nm in
theorem nf_good {X : Prs} (h : ∀ x ∈ nms X, x ∈ N) : Good (NF X) ∧ (NF X).length ≤ 5 := by
  have l := sub_len (nrm_NF X).nodup fun x hx => h x (NF_nms hx)
  have : (nms (NF X)).length = (NF X).length := by simp [nms]
  exact ⟨⟨nrm_NF X, fun x hx => nm x (h x (NF_nms hx)), by omega⟩, by omega⟩
include hl nd nm hv hs hb in
theorem row_ok {X : Prs} {n : Int} (h : ∀ x ∈ nms X, x ∈ N) (c : ∀ x, (cnt X x).natAbs ≤ 2000) (hn : n.natAbs ≤ 20000) : F_law_is_made [] [SumD (NF X) n, LawD (NF X) n, .dic (dD vs)] = some (.ok (.bl true) []) := by
  obtain ⟨g, l⟩ := nf_good hl nd nm h
  have b := nf_bound c
  have e := ev_bound (v := cnt vs) (fun x => cnt_bound hv.n hb x) b
  have e2 : (NF X).length * (2000 * 10 ^ 8) ≤ 5 * (2000 * 10 ^ 8) := Nat.mul_le_mul_right _ l
  have e3 := Int.natAbs_add_le n (evP vs (NF X))
  have e4 : (evP vs (NF X)).natAbs ≤ 5 * (2000 * 10 ^ 8) := Nat.le_trans e e2
  exact law_is_made_ok hv g ⟨fun p hp => Nat.lt_of_le_of_lt (b p hp) (by decide)⟩ (fun x hx => hs x (h x (NF_nms hx))) (Nat.lt_of_le_of_lt hn (by decide)) (by omega) (by omega)
end
theorem allT (n : Nat) : ∀ {ds : List Dat}, allF [.lst (ds.map fun _ => Dat.bl true)] = some (.bl true) := fun {ds} => by
  have h : ∀ ds : List Dat, boolsO (ds.map fun _ => Dat.bl true) = some (ds.map fun _ => true) := fun ds => by
    induction ds with
    | nil => rfl
    | cons d r ih =>
      show (boolsO (r.map fun _ => Dat.bl true)).map (true :: ·) = _
      rw [ih]; rfl
  show (boolsO _).map _ = _
  rw [h]
  simp
section
variable {o o1 o2 o3 o4 o5 : MO} {N : List Dat} {one other made its V S1 S2 S3 S4 S6 S8 S9 L1 L2a L2 L3 L4 L6 L8 L9 T1 T2 T3 T4 Z : Dat} {t : Int} {vd : List Dat} {kv : List (Key × Dat)} {i1 i2 i3 i4 : Int} {r1 r2 : Str}
theorem right_core (e1 : F_law_names [o] [.int 5] = some (.ok (.lst N) [o1]))
    (e2 : F_law_some_sum [o1] [.lst N, .int 4] = some (.ok one [o2])) (e3 : F_law_some_sum [o2] [.lst N, .int 4] = some (.ok other [o3]))
    (e4 : F_law_made [] [one] = some (.ok made [])) (e5 : F_law_made [] [other] = some (.ok its []))
    (e6 : F_law_of [o3] [.lst [.int 0, .int 1, .int (-1), .int 2, .int (-3), .int 7, .int 99, .int (-100)]] = some (.ok (.int t) [o4]))
    (e7 : mLc [8] (mSeqO seqD (mOp addF (mVar 1) (mLst (mCons (mC (.str "zq")) mNil)))) (setD 8) (DL.ret true) (mTup (mCons (mVar 8) (mCons (mCall [0] (okF F_law_of) [] (mCons (mLst (mCons (mC (.int 0)) (mCons (mC (.int 1)) (mCons (mUn negF (mC (.int 1))) (mCons (mC (.int 5)) (mCons (mC (.int 12)) (mCons (mUn negF (mC (.int 7))) (mCons (mC (.int 999)) (mCons (mOp powF (mC (.int 10)) (mC (.int 8))) mNil))))))))) mNil)) mNil)))
      [Sl.m true o4, .d (.lst N), .d one, .d other, .d made, .d its, .d (.int t), .no, .no, .no, .no, .no, .no] = some (.ok (.lst vd) [Sl.m true o5, .d (.lst N), .d one, .d other, .d made, .d its, .d (.int t), .no, .no, .no, .no, .no, .no]))
    (e8 : dictO [.lst vd] = some kv)
    (w1 : opOwn "Sum" F_add F_radd (fun _ _ => none) made its = some S1) (l1 : F_law_plus [] [one, other] = some (.ok L1 []))
    (w2 : opOwn "Sum" F_sub F_rsub (fun _ _ => none) made its = some S2) (l2a : F_law_times [] [other, .int (-1)] = some (.ok L2a [])) (l2 : F_law_plus [] [one, L2a] = some (.ok L2 []))
    (w3 : unOwn "Sum" F_neg (fun _ => none) made = some S3) (l3 : F_law_times [] [one, .int (-1)] = some (.ok L3 []))
    (w4 : opOwn "Sum" F_mul F_rmul (fun _ _ => none) made (.int t) = some S4) (l4 : F_law_times [] [one, .int t] = some (.ok L4 []))
    (w5 : opOwn "Sum" F_mul F_rmul (fun _ _ => none) (.int t) made = some S4)
    (w6 : opOwn "Sum" F_add F_radd (fun _ _ => none) made (.int t) = some S6) (l6 : F_law_plus [] [one, .tup true [.tup true [], .int t]] = some (.ok L6 []))
    (w7 : opOwn "Sum" F_add F_radd (fun _ _ => none) (.int t) made = some S6)
    (w8 : opOwn "Sum" F_sub F_rsub (fun _ _ => none) made (.int t) = some S8) (l8 : F_law_plus [] [one, .tup true [.tup true [], .int (-t)]] = some (.ok L8 []))
    (w9 : opOwn "Sum" F_sub F_rsub (fun _ _ => none) (.int t) made = some S9) (l9 : F_law_plus [] [.tup true [.tup true [], .int t], L3] = some (.ok L9 []))
    (g1 : F_law_is_made [] [S1, L1, .dic kv] = some (.ok (.bl true) [])) (g2 : F_law_is_made [] [S2, L2, .dic kv] = some (.ok (.bl true) [])) (g3 : F_law_is_made [] [S3, L3, .dic kv] = some (.ok (.bl true) []))
    (g4 : F_law_is_made [] [S4, L4, .dic kv] = some (.ok (.bl true) [])) (g6 : F_law_is_made [] [S6, L6, .dic kv] = some (.ok (.bl true) [])) (g8 : F_law_is_made [] [S8, L8, .dic kv] = some (.ok (.bl true) [])) (g9 : F_law_is_made [] [S9, L9, .dic kv] = some (.ok (.bl true) []))
    (c1 : ∀ ml g, callS "Sum" (okF F_call) ml S1 g = bnd ml (fun ds g => resM g (okF F_call [] (S1 :: ds))) g) (c2 : ∀ ml g, callS "Sum" (okF F_call) ml made g = bnd ml (fun ds g => resM g (okF F_call [] (made :: ds))) g)
    (c3 : ∀ ml g, callS "Sum" (okF F_call) ml its g = bnd ml (fun ds g => resM g (okF F_call [] (its :: ds))) g) (c4 : ∀ ml g, callS "Sum" (okF F_call) ml S4 g = bnd ml (fun ds g => resM g (okF F_call [] (S4 :: ds))) g)
    (k1 : F_call [] [S1, .dic kv] = some (.ok (.int i1) [])) (k2 : F_call [] [made, .dic kv] = some (.ok (.int i2) [])) (k3 : F_call [] [its, .dic kv] = some (.ok (.int i3) [])) (k4 : F_call [] [S4, .dic kv] = some (.ok (.int i4) []))
    (q1 : i1 = i2 + i3) (q2 : mulF (.int i2) (.int t) = some (.int i4))
    (x1 : opOwn "Sum" F_add F_radd (fun _ _ => none) its made = some S1) (y1 : neOwn "Sum" F_eq neF S1 S1 = some (.bl false))
    (x2 : opOwn "Sum" F_add F_radd (fun _ _ => none) S2 its = some made) (y2 : neOwn "Sum" F_eq neF made made = some (.bl false))
    (x3 : opOwn "Sum" F_sub F_rsub (fun _ _ => none) made made = some Z) (z0 : F_init [.tup true [], .int 0] = some (Z, none)) (y3 : neOwn "Sum" F_eq neF Z Z = some (.bl false))
    (x4 : opOwn "Sum" F_add F_radd (fun _ _ => none) made Z = some made)
    (u1 : F_law_pair [] [made] = some (.ok one [])) (u2 : F_law_pair [] [its] = some (.ok other []))
    (v1 : reprF [one] = some (.str r1)) (v2 : reprF [other] = some (.str r2)) (v3 : eqB (.str r1) (.str r1) = some true) (v4 : eqB (.str r2) (.str r2) = some true) :
    F_law_right [o] [] = some (.ok (.bl true) [o5]) := by
  subst q1
  unfold F_law_right runF
  simp only [m_law_right, List.map_cons, List.map_nil, List.replicate, List.length_cons, List.length_nil, List.append_nil, List.nil_append, List.cons_append]
  simp [e1, e2, e3, e4, e5, e6, e7, e8, w1, l1, w2, l2a, l2, w3, l3, w4, l4, w5, w6, l6, w7, w8, l8, w9, l9, catN, e_ret, e_lift, e_bnd, e_var, e_C, e_op, e_un, e_nil, e_cons, e_fn, e_test, e_notT, e_andT, e_orT, e_notV, e_andV, e_orV, e_if, e_tt, e_ff, e_chain, e_tup, e_lst, e_next, e_seq, e_nx, e_rt, e_drop, e_mret, e_retN, e_set, e_asg, e_par, e_par3, e_par2N, e_setD, e_setM, e_own, e_isi, e_tupT, e_nilT, e_consT, e_lstN, e_dic0, e_fnN, e_callN, e_fzN, e_seqO, e_itA, e_for, e_attr, e_raise, e_make, e_part, e_slice, e_ixM, e_setIx, e_append, e_popAt, e_lenM, e_fz, e_call, e_prop, e_getM, e_putM, e_getD, e_ixD, e_inD, e_methS0, e_fldSet, e_callO, e_callS, e_seqN, e_opN, vv_gt, vv_ge, vv_geS, vv_lt, vv_le, vv_add, vv_addL, vv_addT, vv_sub, vv_neg, vv_abs, vv_int, vv_intb, vv_lenL, vv_lenT, vv_lenS, vv_ixL, vv_ixT, vv_b, vv_tup, vv_lst, vv_tupL, vv_tupT, vv_listN, vv_seqL, vv_seqT, vv_asc, vv_alpha, vv_lower, vv_strS, vv_moL, vv_moD, vv_tyI, vv_tyB, vv_tyS, vv_tyL, vv_tyT, vv_tyD, vv_tyN, vv_min, vv_max, vv_keys, vv_asI, vv_k1, vv_k2, vv_eq, vv_ne, vv_eqI, vv_ii, vv_ib, vv_bi, vv_bb, vv_tt, vv_ss, vv_dd, ixN, lstAt, dicAt, atI_0, atI_1, atI_2, outs, getMs, putM, putMs, ownB, isM, isS, okF, okI, sizeLine]
  rw [mLc_map (ds := [.tup true [S1, L1], .tup true [S2, L2], .tup true [S3, L3], .tup true [S4, L4], .tup true [S4, L4], .tup true [S6, L6], .tup true [S6, L6], .tup true [S8, L8], .tup true [S9, L9]]) (fun _ => .bl true) ?hi ?hn ?h ?hl]
  case hi => simp [e_ret, e_lift, e_bnd, e_var, e_C, e_op, e_un, e_nil, e_cons, e_fn, e_test, e_notT, e_andT, e_orT, e_notV, e_andV, e_orV, e_if, e_tt, e_ff, e_chain, e_tup, e_lst, e_next, e_seq, e_nx, e_rt, e_drop, e_mret, e_retN, e_set, e_asg, e_par, e_par3, e_par2N, e_setD, e_setM, e_own, e_isi, e_tupT, e_nilT, e_consT, e_lstN, e_dic0, e_fnN, e_callN, e_fzN, e_seqO, e_itA, e_for, e_attr, e_raise, e_make, e_part, e_slice, e_ixM, e_setIx, e_append, e_popAt, e_lenM, e_fz, e_call, e_prop, e_getM, e_putM, e_getD, e_ixD, e_inD, e_methS0, e_fldSet, e_callO, e_callS, e_seqN, e_opN, vv_gt, vv_ge, vv_geS, vv_lt, vv_le, vv_add, vv_addL, vv_addT, vv_sub, vv_neg, vv_abs, vv_int, vv_intb, vv_lenL, vv_lenT, vv_lenS, vv_ixL, vv_ixT, vv_b, vv_tup, vv_lst, vv_tupL, vv_tupT, vv_listN, vv_seqL, vv_seqT, vv_asc, vv_alpha, vv_lower, vv_strS, vv_moL, vv_moD, vv_tyI, vv_tyB, vv_tyS, vv_tyL, vv_tyT, vv_tyD, vv_tyN, vv_min, vv_max, vv_keys, vv_asI, vv_k1, vv_k2, vv_eq, vv_ne, vv_eqI, vv_ii, vv_ib, vv_bi, vv_bb, vv_tt, vv_ss, vv_dd, ixN, lstAt, dicAt, atI_0, atI_1, atI_2, outs, getMs, putM, putMs, ownB, isM, isS, okF, okI, sizeLine]; rfl
  case hn => rfl
  case h =>
    intro d hd
    simp only [List.mem_cons, List.not_mem_nil, or_false] at hd
    have go : ∀ S L : Dat, F_law_is_made [] [S, L, .dic kv] = some (.ok (.bl true) []) → d = .tup true [S, L] → ∃ g1, tupT 2 (consT (setD 11) (consT (setD 12) nilT)) d (wipeG [Sl.m true o5, .d (.lst N), .d one, .d other, .d made, .d its, .d (.int t), .d (.dic kv), .no, .d (.tup true [.tup true [], .int t]), .d (.lst [.tup true [S1, L1], .tup true [S2, L2], .tup true [S3, L3], .tup true [S4, L4], .tup true [S4, L4], .tup true [S6, L6], .tup true [S6, L6], .tup true [S8, L8], .tup true [S9, L9]]), .no, .no] [11, 12]) = some (.ok () g1) ∧ wipeG g1 [11, 12] = wipeG [Sl.m true o5, .d (.lst N), .d one, .d other, .d made, .d its, .d (.int t), .d (.dic kv), .no, .d (.tup true [.tup true [], .int t]), .d (.lst [.tup true [S1, L1], .tup true [S2, L2], .tup true [S3, L3], .tup true [S4, L4], .tup true [S4, L4], .tup true [S6, L6], .tup true [S6, L6], .tup true [S8, L8], .tup true [S9, L9]]), .no, .no] [11, 12] ∧ DL.ret true g1 = some (.ok true g1) ∧ mCall [] (okF F_law_is_made) [] (mCons (mVar 11) (mCons (mVar 12) (mCons (mVar 7) mNil))) g1 = some (.ok (.bl true) g1) := fun S L g e => by
      subst e
      refine ⟨[Sl.m true o5, .d (.lst N), .d one, .d other, .d made, .d its, .d (.int t), .d (.dic kv), .no, .d (.tup true [.tup true [], .int t]), .d (.lst [.tup true [S1, L1], .tup true [S2, L2], .tup true [S3, L3], .tup true [S4, L4], .tup true [S4, L4], .tup true [S6, L6], .tup true [S6, L6], .tup true [S8, L8], .tup true [S9, L9]]), .d S, .d L], ?_, rfl, rfl, ?_⟩
      · simp [wipeG, e_ret, e_lift, e_bnd, e_var, e_C, e_op, e_un, e_nil, e_cons, e_fn, e_test, e_notT, e_andT, e_orT, e_notV, e_andV, e_orV, e_if, e_tt, e_ff, e_chain, e_tup, e_lst, e_next, e_seq, e_nx, e_rt, e_drop, e_mret, e_retN, e_set, e_asg, e_par, e_par3, e_par2N, e_setD, e_setM, e_own, e_isi, e_tupT, e_nilT, e_consT, e_lstN, e_dic0, e_fnN, e_callN, e_fzN, e_seqO, e_itA, e_for, e_attr, e_raise, e_make, e_part, e_slice, e_ixM, e_setIx, e_append, e_popAt, e_lenM, e_fz, e_call, e_prop, e_getM, e_putM, e_getD, e_ixD, e_inD, e_methS0, e_fldSet, e_callO, e_callS, e_seqN, e_opN, vv_gt, vv_ge, vv_geS, vv_lt, vv_le, vv_add, vv_addL, vv_addT, vv_sub, vv_neg, vv_abs, vv_int, vv_intb, vv_lenL, vv_lenT, vv_lenS, vv_ixL, vv_ixT, vv_b, vv_tup, vv_lst, vv_tupL, vv_tupT, vv_listN, vv_seqL, vv_seqT, vv_asc, vv_alpha, vv_lower, vv_strS, vv_moL, vv_moD, vv_tyI, vv_tyB, vv_tyS, vv_tyL, vv_tyT, vv_tyD, vv_tyN, vv_min, vv_max, vv_keys, vv_asI, vv_k1, vv_k2, vv_eq, vv_ne, vv_eqI, vv_ii, vv_ib, vv_bi, vv_bb, vv_tt, vv_ss, vv_dd, ixN, lstAt, dicAt, atI_0, atI_1, atI_2, outs, getMs, putM, putMs, ownB, isM, isS, okF, okI, sizeLine]
      · simp [g, e_ret, e_lift, e_bnd, e_var, e_C, e_op, e_un, e_nil, e_cons, e_fn, e_test, e_notT, e_andT, e_orT, e_notV, e_andV, e_orV, e_if, e_tt, e_ff, e_chain, e_tup, e_lst, e_next, e_seq, e_nx, e_rt, e_drop, e_mret, e_retN, e_set, e_asg, e_par, e_par3, e_par2N, e_setD, e_setM, e_own, e_isi, e_tupT, e_nilT, e_consT, e_lstN, e_dic0, e_fnN, e_callN, e_fzN, e_seqO, e_itA, e_for, e_attr, e_raise, e_make, e_part, e_slice, e_ixM, e_setIx, e_append, e_popAt, e_lenM, e_fz, e_call, e_prop, e_getM, e_putM, e_getD, e_ixD, e_inD, e_methS0, e_fldSet, e_callO, e_callS, e_seqN, e_opN, vv_gt, vv_ge, vv_geS, vv_lt, vv_le, vv_add, vv_addL, vv_addT, vv_sub, vv_neg, vv_abs, vv_int, vv_intb, vv_lenL, vv_lenT, vv_lenS, vv_ixL, vv_ixT, vv_b, vv_tup, vv_lst, vv_tupL, vv_tupT, vv_listN, vv_seqL, vv_seqT, vv_asc, vv_alpha, vv_lower, vv_strS, vv_moL, vv_moD, vv_tyI, vv_tyB, vv_tyS, vv_tyL, vv_tyT, vv_tyD, vv_tyN, vv_min, vv_max, vv_keys, vv_asI, vv_k1, vv_k2, vv_eq, vv_ne, vv_eqI, vv_ii, vv_ib, vv_bi, vv_bb, vv_tt, vv_ss, vv_dd, ixN, lstAt, dicAt, atI_0, atI_1, atI_2, outs, getMs, putM, putMs, ownB, isM, isS, okF, okI, sizeLine]
    rcases hd with rfl | rfl | rfl | rfl | rfl | rfl | rfl | rfl | rfl
    · exact go S1 L1 g1 rfl
    · exact go S2 L2 g2 rfl
    · exact go S3 L3 g3 rfl
    · exact go S4 L4 g4 rfl
    · exact go S4 L4 g4 rfl
    · exact go S6 L6 g6 rfl
    · exact go S6 L6 g6 rfl
    · exact go S8 L8 g8 rfl
    · exact go S9 L9 g9 rfl
  case hl => simp [sizeLine]
  have al := allT 0 (ds := [.tup true [S1, L1], .tup true [S2, L2], .tup true [S3, L3], .tup true [S4, L4], .tup true [S4, L4], .tup true [S6, L6], .tup true [S6, L6], .tup true [S8, L8], .tup true [S9, L9]])
  generalize hR : ([.tup true [S1, L1], .tup true [S2, L2], .tup true [S3, L3], .tup true [S4, L4], .tup true [S4, L4], .tup true [S6, L6], .tup true [S6, L6], .tup true [S8, L8], .tup true [S9, L9]] : List Dat) = R at *
  simp [al, w1, w4, w2, c1, c2, c3, c4, k1, k2, k3, k4, q2, x1, y1, x2, y2, x3, z0, dd0, y3, x4, u1, u2, v1, v2, v3, v4, resM, wipeG, backG, e_ret, e_lift, e_bnd, e_var, e_C, e_op, e_un, e_nil, e_cons, e_fn, e_test, e_notT, e_andT, e_orT, e_notV, e_andV, e_orV, e_if, e_tt, e_ff, e_chain, e_tup, e_lst, e_next, e_seq, e_nx, e_rt, e_drop, e_mret, e_retN, e_set, e_asg, e_par, e_par3, e_par2N, e_setD, e_setM, e_own, e_isi, e_tupT, e_nilT, e_consT, e_lstN, e_dic0, e_fnN, e_callN, e_fzN, e_seqO, e_itA, e_for, e_attr, e_raise, e_make, e_part, e_slice, e_ixM, e_setIx, e_append, e_popAt, e_lenM, e_fz, e_call, e_prop, e_getM, e_putM, e_getD, e_ixD, e_inD, e_methS0, e_fldSet, e_callO, e_callS, e_seqN, e_opN, vv_gt, vv_ge, vv_geS, vv_lt, vv_le, vv_add, vv_addL, vv_addT, vv_sub, vv_neg, vv_abs, vv_int, vv_intb, vv_lenL, vv_lenT, vv_lenS, vv_ixL, vv_ixT, vv_b, vv_tup, vv_lst, vv_tupL, vv_tupT, vv_listN, vv_seqL, vv_seqT, vv_asc, vv_alpha, vv_lower, vv_strS, vv_moL, vv_moD, vv_tyI, vv_tyB, vv_tyS, vv_tyL, vv_tyT, vv_tyD, vv_tyN, vv_min, vv_max, vv_keys, vv_asI, vv_k1, vv_k2, vv_eq, vv_ne, vv_eqI, vv_ii, vv_ib, vv_bi, vv_bb, vv_tt, vv_ss, vv_dd, ixN, lstAt, dicAt, atI_0, atI_1, atI_2, outs, getMs, putM, putMs, ownB, isM, isS, okF, okI, sizeLine]
end
theorem right_ok {k : Nat} {o : MO} (h : PotOk k o) (hk : k < 10000) : ∃ o', F_law_right [o] [] = some (.ok (.bl true) [o']) ∧ PotOk (k + 1000) o' := by
  obtain ⟨N, o1, e1, p1, hl, nd, hp⟩ := names_ok h (by omega)
  have nm : ∀ x ∈ N, NmOk x := fun x hx => pool_nm x (List.mem_append_left _ (hp x hx))
  obtain ⟨ps, a, o2, e2, p2, dp, ha⟩ := some_sum_ok p1 (by omega) (by omega) nd nm
  obtain ⟨qs, b, o3, e3, p3, dq, hb⟩ := some_sum_ok p2 (by omega) (by omega) nd nm
  have e4 := law_made_ok (k := a) dp.g
  have e5 := law_made_ok (k := b) dq.g
  obtain ⟨x, o4, e6, hx, p4⟩ := of_ok (xs := [.int 0, .int 1, .int (-1), .int 2, .int (-3), .int 7, .int 99, .int (-100)]) p3 (by omega) (by decide) (by decide)
  have hm : ∃ m : Int, x = .int m ∧ m.natAbs ≤ 100 := by
    simp only [List.mem_cons, List.not_mem_nil, or_false] at hx
    rcases hx with rfl | rfl | rfl | rfl | rfl | rfl | rfl | rfl <;> exact ⟨_, rfl, by decide⟩
  obtain ⟨t, rfl, ht⟩ := hm
  obtain ⟨vs, o5, e7, p5, hvn, hv, hvb⟩ := vals_ok (g := []) [] p4 (by omega) hl nd hp (LawD ps a) (LawD qs b) (SumD ps a) (SumD qs b) (.int t)
  have e8 := dictO_L hv.n
  have hs : ∀ x ∈ N, x ∈ nms vs := fun x hx => by rw [hvn]; exact List.mem_append_left _ hx
  refine ⟨o5, ?_, p5.mono (by omega)⟩
  -- bounds
  have bp := cnt_bound dp.g.n.nodup dp.b
  have bq := cnt_bound dq.g.n.nodup dq.b
  have sp : Small ps := ⟨fun p hp => Nat.lt_of_le_of_lt (dp.b p hp) (by decide)⟩
  have sq : Small qs := ⟨fun p hp => Nat.lt_of_le_of_lt (dq.b p hp) (by decide)⟩
  have lp : ps.length ≤ 5 := by
    have := sub_len dp.g.n.nodup dp.s
    have z : (nms ps).length = ps.length := by simp [nms]
    omega
  have lq : qs.length ≤ 5 := by
    have := sub_len dq.g.n.nodup dq.s
    have z : (nms qs).length = qs.length := by simp [nms]
    omega
  have np : NF ps = ps := NF_of dp.g.n
  have nq : NF qs = qs := NF_of dq.g.n
  have nms_a : ∀ (t : Int), ∀ x ∈ nms (ps ++ scl t qs), x ∈ N := fun t x hx => by
    have : nms (ps ++ scl t qs) = nms ps ++ nms qs := by rw [← nms_scl t qs]; simp [nms]
    rw [this] at hx
    exact (List.mem_append.mp hx).elim (dp.s x) (dq.s x)
  have nms_b : ∀ x ∈ nms (ps ++ qs), x ∈ N := fun x hx => by
    have : nms (ps ++ qs) = nms ps ++ nms qs := by simp [nms]
    rw [this] at hx
    exact (List.mem_append.mp hx).elim (dp.s x) (dq.s x)
  have nms_c : ∀ (t : Int), ∀ x ∈ nms (scl t ps), x ∈ N := fun t x hx => by rw [nms_scl] at hx; exact dp.s x hx
  have b1 : ∀ x, (cnt (ps ++ qs) x).natAbs ≤ 2000 := fun x => by rw [cnt_app]; have := bp x; have := bq x; omega
  have b2 : ∀ x, (cnt (ps ++ scl (-1) qs) x).natAbs ≤ 2000 := fun x => by rw [cnt_app, cnt_scl]; have := bp x; have := bq x; omega
  have b3 : ∀ x, (cnt (scl (-1) ps) x).natAbs ≤ 2000 := fun x => by rw [cnt_scl]; have := bp x; omega
  have b4 : ∀ x, (cnt (scl t ps) x).natAbs ≤ 2000 := fun x => by
    rw [cnt_scl, Int.natAbs_mul]
    exact Nat.le_trans (Nat.mul_le_mul ht (bp x)) (by decide)
  have bta : (t * a).natAbs ≤ 100 * 99 := by rw [Int.natAbs_mul]; exact Nat.mul_le_mul ht ha
  obtain ⟨G1, G1l⟩ := nf_good hl nd nm nms_b
  obtain ⟨G2, G2l⟩ := nf_good hl nd nm (nms_a (-1))
  obtain ⟨G3, G3l⟩ := nf_good hl nd nm (nms_c (-1))
  obtain ⟨G4, G4l⟩ := nf_good hl nd nm (nms_c t)
  have sm : ∀ {X : Prs}, (∀ x, (cnt X x).natAbs ≤ 2000) → Small (NF X) := fun {X} h => ⟨fun p hp => Nat.lt_of_le_of_lt (nf_bound h p hp) (by decide)⟩
  have n1 : NF (ps ++ scl 1 qs) = NF (ps ++ qs) := NF_ext fun x => by rw [cnt_app, cnt_app, cnt_scl]; omega
  have n1' : NF (qs ++ scl 1 ps) = NF (ps ++ qs) := NF_ext fun x => by rw [cnt_app, cnt_app, cnt_scl]; omega
  have n2 : NF (ps ++ NF (scl (-1) qs)) = NF (ps ++ scl (-1) qs) := NF_ext fun x => by rw [cnt_app, cnt_app, cnt_NF]
  have n3 : NF (NF (ps ++ scl (-1) qs) ++ scl 1 qs) = ps := by
    rw [← np]
    refine NF_ext fun x => ?_
    rw [cnt_app, cnt_NF, cnt_app, cnt_scl, cnt_scl, np]
    omega
  have n4 : NF (ps ++ scl (-1) ps) = [] := by
    refine nrm_ext (nrm_NF _) ⟨.nil, fun p h => by cases h⟩ fun x => ?_
    rw [cnt_NF, cnt_app, cnt_scl]
    show _ = (0 : Int)
    omega
  have n5 : NF (ps ++ scl 1 []) = ps := by
    have : ps ++ scl 1 [] = ps := by simp [scl]
    rw [this, np]
  have n6 : NF (ps ++ []) = ps := by rw [List.append_nil, np]
  have n9 : NF (([] : Prs) ++ NF (scl (-1) ps)) = NF (scl (-1) ps) := by rw [List.nil_append, NF_of (nrm_NF _)]
  have ga := fun (x : Int) (h : x.natAbs ≤ 100) => (show x.natAbs < 2 ^ 100 from Nat.lt_of_le_of_lt h (by decide))
  have g80 : ∀ {X : Prs} {n : Nat}, n ≤ 9 → (∀ p ∈ X, p.2.natAbs ≤ n) → ∀ p ∈ X, p.2.natAbs < 2 ^ 80 := fun hn h p hp => Nat.lt_of_le_of_lt (Nat.le_trans (h p hp) hn) (by decide)
  have W1 := add_ss (a := a) dp.g dq.g (by omega) (ga b (by omega)) sq
  rw [n1, Int.one_mul] at W1
  have W2 := sub_ss (a := a) dp.g dq.g (by omega) (ga b (by omega)) sq
  have W3 := neg_ok dp.g (ga a (by omega)) sp
  have W4 := mul_ok dp.g (ga t ht) (ga a (by omega)) sp
  have W5 := rmul_ok dp.g (ga t ht) (ga a (by omega)) sp
  have W6 := add_si (a := a) (i := t) dp.g
  have W7 := radd_ok (a := a) (i := t) dp.g
  rw [Int.add_comm] at W7
  have W8 := sub_si (a := a) (i := t) dp.g
  have W9 := rsub_ok (i := t) dp.g (ga a (by omega)) sp
  have L1 := law_plus_ok (a := a) (b := b) sp.b sq.b (by omega)
  have L2a := law_times_ok (a := b) (t := -1) (g80 (by decide) dq.b) (by omega) (by decide) (by omega)
  have lsq : (scl (-1) qs).length = qs.length := by simp [scl]
  have lnq := NF_len (scl (-1) qs)
  have L2 := law_plus_ok (ps := ps) (qs := NF (scl (-1) qs)) (a := a) (b := -1 * b) sp.b (sm (fun x => by rw [cnt_scl]; have := bq x; omega)).b (by omega)
  rw [n2] at L2
  have L3 := law_times_ok (a := a) (t := -1) (g80 (by decide) dp.b) (by omega) (by decide) (by omega)
  have L4 := law_times_ok (a := a) (t := t) (g80 (by decide) dp.b) (by omega) (by omega) (by omega)
  have L6 := law_plus_ok (ps := ps) (qs := []) (a := a) (b := t) sp.b (fun p h => by cases h) (by simp; omega)
  rw [n6] at L6
  have L8 := law_plus_ok (ps := ps) (qs := []) (a := a) (b := -t) sp.b (fun p h => by cases h) (by simp; omega)
  rw [n6, ← Int.sub_eq_add_neg] at L8
  have L9 := law_plus_ok (ps := []) (qs := NF (scl (-1) ps)) (a := t) (b := -1 * a) (fun p h => by cases h) (sm b3).b (by simp; omega)
  rw [n9, Int.add_comm] at L9
  have R1 := row_ok hl nd nm hv hs hvb (n := a + b) nms_b b1 (by omega)
  have R2 := row_ok hl nd nm hv hs hvb (n := a + -1 * b) (nms_a (-1)) b2 (by omega)
  have R3 := row_ok hl nd nm hv hs hvb (n := -1 * a) (nms_c (-1)) b3 (by omega)
  have R4 := row_ok hl nd nm hv hs hvb (n := t * a) (nms_c t) b4 (by omega)
  have bp' : ∀ x, (cnt ps x).natAbs ≤ 2000 := fun x => Nat.le_trans (bp x) (by decide)
  have R6 := row_ok hl nd nm hv hs hvb (n := a + t) dp.s bp' (by omega)
  rw [np] at R6
  have R8 := row_ok hl nd nm hv hs hvb (n := a - t) dp.s bp' (by omega)
  rw [np] at R8
  have R9 := row_ok hl nd nm hv hs hvb (n := -1 * a + t) (nms_c (-1)) b3 (by omega)
  have K1 := call_ok (a := a + b) hv G1 (sm b1) fun x hx => hs x (nms_b x (NF_nms hx))
  have K2 := call_ok (a := a) hv dp.g sp fun x hx => hs x (dp.s x hx)
  have K3 := call_ok (a := b) hv dq.g sq fun x hx => hs x (dq.s x hx)
  have K4 := call_ok (a := t * a) hv G4 (sm b4) fun x hx => hs x (nms_c t x (NF_nms hx))
  have Q1 : a + b + evP vs (NF (ps ++ qs)) = (a + evP vs ps) + (b + evP vs qs) := by
    unfold evP
    rw [ev_NF, ev_app]
    omega
  have Q2 : mulF (.int (a + evP vs ps)) (.int t) = some (.int (t * a + evP vs (NF (scl t ps)))) := by
    have e := ev_bound (v := cnt vs) (fun x => cnt_bound hv.n hvb x) dp.b
    have e' : ps.length * (9 * 10 ^ 8) ≤ 5 * (9 * 10 ^ 8) := Nat.mul_le_mul_right _ lp
    have e2 : (evP vs ps).natAbs ≤ 5 * (9 * 10 ^ 8) := Nat.le_trans e e'
    have e3 := Int.natAbs_add_le a (evP vs ps)
    rw [mulF_ok (by omega) (by omega)]
    unfold evP
    rw [ev_NF, ev_scl, Int.add_mul, Int.mul_comm a t, Int.mul_comm (ev _ _) t]
  have X1 := add_ss (a := b) (b := a) dq.g dp.g (by omega) (ga a (by omega)) sp
  rw [n1', Int.one_mul, Int.add_comm b a] at X1
  have X2 := add_ss (a := a + -1 * b) (b := b) G2 dq.g (by omega) (ga b (by omega)) sq
  rw [n3, show a + -1 * b + 1 * b = a by omega] at X2
  have X3 := sub_ss (a := a) (b := a) dp.g dp.g (by omega) (ga a (by omega)) sp
  rw [n4, show a + -1 * a = 0 by omega] at X3
  have G0 : Good [] := ⟨⟨List.Pairwise.nil, fun p h => absurd h List.not_mem_nil⟩, fun x h => absurd h List.not_mem_nil, by decide⟩
  have X4 := add_ss (a := a) (b := 0) dp.g G0 (by simp; omega) (by decide) ⟨fun p h => by cases h⟩
  rw [n5, show a + 1 * 0 = a by omega] at X4
  exact right_core e1 e2 e3 e4 e5 e6 e7 e8 (own_obj W1) L1 (own_obj W2) L2a L2 (un_S W3) L3 (own_int W4) L4 (own_rint W5) (own_int W6) L6 (own_rint W7) (own_int W8) L8 (own_rint W9) L9
    R1 R2 R3 R4 R6 R8 R9 (fun ml g => callS_S) (fun ml g => callS_S) (fun ml g => callS_S) (fun ml g => callS_S) K1 K2 K3 K4 Q1 Q2
    (own_obj X1) (ne_ok G1) (own_obj X2) (ne_ok dp.g) (own_obj X3) (init_ok G0) (ne_ok G0) (own_obj X4) law_pair_ok law_pair_ok
    (repr_law dp.g sp (ga a (by omega)) (by omega)) (repr_law dq.g sq (ga b (by omega)) (by omega))
    (eqB_shown (x := LawD ps a) rfl (by simp [LawD, toP, toPs, asc, ascA, asc_psD fun x hx => (dp.g.nm x hx).w])) (eqB_shown (x := LawD qs b) rfl (by simp [LawD, toP, toPs, asc, ascA, asc_psD fun x hx => (dq.g.nm x hx).w]))
end K04

set_option Elab.async false
set_option linter.all false
set_option maxRecDepth 100000
set_option maxHeartbeats 4000000
namespace K04
open PySem PySem.Spec PyProof.Rows L2 GX DL
theorem mulF_big {i j : Int} (hi : i.natAbs < 2 ^ 2000) (hj : j.natAbs < 2 ^ 2000) : mulF (.int i) (.int j) = some (.int (i * j)) := by
  show (if _ then _ else _) = _
  rw [if_pos]
  have a := log2_lt hi (by decide)
  have b := log2_lt hj (by decide)
  omega
theorem pow60 : powF (.int 10) (.int 60) = some (.int 1000000000000000000000000000000000000000000000000000000000000) :=
  (powF_ok (by decide) (by decide) (by decide)).trans (congrArg (fun x => some (Dat.int x)) (by decide +kernel))
theorem pow18 : powF (.int 10) (.int 18) = some (.int 1000000000000000000) :=
  (powF_ok (by decide) (by decide) (by decide)).trans (congrArg (fun x => some (Dat.int x)) (by decide +kernel))
theorem powF_c {i j : Int} (h1 : ¬ (0 ≤ j ∧ j ≤ 1000000 ∧ i.natAbs < 2 ^ 64)) (h2 : i = 10 ^ 60 ∧ j = 5) : powF (.int i) (.int j) = some (.int (10 ^ 300)) := by
  unfold powF intF
  dsimp only
  rw [if_neg h1, if_pos h2]
theorem pow300 : powF (.int 1000000000000000000000000000000000000000000000000000000000000) (.int 5) = some (.int (10 ^ 300)) := powF_c (by decide +kernel) (by decide +kernel)
theorem pot_ok {ns : List Int} {k : Int} (h0 : 0 ≤ k) (h1 : k < 1000) (hl : ns.length ≤ 1000) : ∃ o, F_law_pot [.lst (ns.map Dat.int), .int k] = some o ∧ PotOk 0 o := by
  obtain ⟨T, pT, T0, T1⟩ : ∃ T : Int, powF (.int 1000000000000000000000000000000000000000000000000000000000000) (.int 5) = some (.int T) ∧ 0 < T ∧ T.natAbs < 2 ^ 2000 := ⟨10 ^ 300, pow300, by decide +kernel, by decide +kernel⟩
  have hc : ∃ c : Int, mIf (mTest (mOp ltF (mVar 1) (mFn lenF (mCons (mVar 0) mNil)))) (mOp ixF (mVar 0) (mVar 1)) (mOp addF (mOp mulF (mC (.int 81)) (mVar 1)) (mC (.int 43))) [Sl.d (.lst (ns.map Dat.int)), .d (.int k), .no, .no, .no] = some (.ok (.int c) [Sl.d (.lst (ns.map Dat.int)), .d (.int k), .no, .no, .no]) := by
    by_cases hk : k < ((ns.map Dat.int).length : Nat)
    · have a := atI_ok (xs := ns.map Dat.int) h0 hk
      have hk' : k.toNat < ns.length := by rw [List.length_map] at hk; omega
      refine ⟨ns[k.toNat], ?_⟩
      rw [List.getElem_map] at a
      have hk2 : k < (ns.length : Nat) := by simpa using hk
      simp [hk2, a, e_ret, e_lift, e_bnd, e_var, e_C, e_op, e_un, e_nil, e_cons, e_fn, e_test, e_notT, e_andT, e_orT, e_notV, e_andV, e_orV, e_if, e_tt, e_ff, e_chain, e_tup, e_lst, e_next, e_seq, e_nx, e_rt, e_drop, e_mret, e_retN, e_set, e_asg, e_par, e_par3, e_par2N, e_setD, e_setM, e_own, e_isi, e_tupT, e_nilT, e_consT, e_lstN, e_dic0, e_fnN, e_callN, e_fzN, e_seqO, e_itA, e_for, e_attr, e_raise, e_make, e_part, e_slice, e_ixM, e_setIx, e_append, e_popAt, e_lenM, e_fz, e_call, e_prop, e_getM, e_putM, e_getD, e_ixD, e_inD, e_methS0, e_fldSet, e_callO, e_callS, e_seqN, e_opN, vv_gt, vv_ge, vv_geS, vv_lt, vv_le, vv_add, vv_addL, vv_addT, vv_sub, vv_neg, vv_abs, vv_int, vv_intb, vv_lenL, vv_lenT, vv_lenS, vv_ixL, vv_ixT, vv_b, vv_tup, vv_lst, vv_tupL, vv_tupT, vv_listN, vv_seqL, vv_seqT, vv_asc, vv_alpha, vv_lower, vv_strS, vv_moL, vv_moD, vv_tyI, vv_tyB, vv_tyS, vv_tyL, vv_tyT, vv_tyD, vv_tyN, vv_min, vv_max, vv_keys, vv_asI, vv_k1, vv_k2, vv_eq, vv_ne, vv_eqI, vv_ii, vv_ib, vv_bi, vv_bb, vv_tt, vv_ss, vv_dd, ixN, lstAt, dicAt, atI_0, atI_1, atI_2, outs, getMs, putM, putMs, ownB, isM, isS, okF, okI, sizeLine]
    · have e : mulF (.int 81) (.int k) = some (.int (81 * k)) := mulF_ok (by decide) (by omega)
      refine ⟨81 * k + 43, ?_⟩
      have hk2 : ¬ k < (ns.length : Nat) := by simpa using hk
      simp [hk2, e, e_ret, e_lift, e_bnd, e_var, e_C, e_op, e_un, e_nil, e_cons, e_fn, e_test, e_notT, e_andT, e_orT, e_notV, e_andV, e_orV, e_if, e_tt, e_ff, e_chain, e_tup, e_lst, e_next, e_seq, e_nx, e_rt, e_drop, e_mret, e_retN, e_set, e_asg, e_par, e_par3, e_par2N, e_setD, e_setM, e_own, e_isi, e_tupT, e_nilT, e_consT, e_lstN, e_dic0, e_fnN, e_callN, e_fzN, e_seqO, e_itA, e_for, e_attr, e_raise, e_make, e_part, e_slice, e_ixM, e_setIx, e_append, e_popAt, e_lenM, e_fz, e_call, e_prop, e_getM, e_putM, e_getD, e_ixD, e_inD, e_methS0, e_fldSet, e_callO, e_callS, e_seqN, e_opN, vv_gt, vv_ge, vv_geS, vv_lt, vv_le, vv_add, vv_addL, vv_addT, vv_sub, vv_neg, vv_abs, vv_int, vv_intb, vv_lenL, vv_lenT, vv_lenS, vv_ixL, vv_ixT, vv_b, vv_tup, vv_lst, vv_tupL, vv_tupT, vv_listN, vv_seqL, vv_seqT, vv_asc, vv_alpha, vv_lower, vv_strS, vv_moL, vv_moD, vv_tyI, vv_tyB, vv_tyS, vv_tyL, vv_tyT, vv_tyD, vv_tyN, vv_min, vv_max, vv_keys, vv_asI, vv_k1, vv_k2, vv_eq, vv_ne, vv_eqI, vv_ii, vv_ib, vv_bi, vv_bb, vv_tt, vv_ss, vv_dd, ixN, lstAt, dicAt, atI_0, atI_1, atI_2, outs, getMs, putM, putMs, ownB, isM, isS, okF, okI, sizeLine]
  obtain ⟨c, hc⟩ := hc
  generalize hb : (if c < 0 then -c else c) = b
  have m0 : 0 ≤ b % T := Int.emod_nonneg _ (Int.ne_of_gt T0)
  have m1 : b % T < T := Int.emod_lt_of_pos _ T0
  have e1 : ∀ j : Int, j.natAbs < 2 → mulF (.int (b % T)) (.int j) = some (.int (b % T * j)) := fun j hj => mulF_big (by omega) (Nat.lt_trans hj (by decide))
  have e0 : modF (.int b) (.int T) = some (.int (b % T)) := modF_ok T0
  have hq0 := Int.emod_nonneg c (show (2305843009213693951 : Int) ≠ 0 by decide)
  have hq1 := Int.emod_lt_of_pos c (show (0 : Int) < 2305843009213693951 by decide)
  generalize hq : c % 2305843009213693951 = q at hq0 hq1
  have e2 : mulF (.int q) (.int 76263) = some (.int (q * 76263)) := mulF_ok (by omega) (by decide)
  have e3 : mulF (.int 8219) (.int k) = some (.int (8219 * k)) := mulF_ok (by decide) (by omega)
  have e4 : mulF (.int (8219 * k)) (.int k) = some (.int (8219 * k * k)) := mulF_ok (by omega) (by omega)
  generalize 8219 * k * k = kk at e4
  have r0 := Int.emod_nonneg (q * 76263 + kk + 101) (show (2305843009213693921 : Int) ≠ 0 by decide)
  have r1 := Int.emod_lt_of_pos (q * 76263 + kk + 101) (show (0 : Int) < 2305843009213693921 by decide)
  have e5 : modF (.int c) (.int 2305843009213693951) = some (.int q) := by rw [modF_ok (by decide), hq]
  have e6 : modF (.int (q * 76263 + kk + 101)) (.int 2305843009213693921) = some (.int ((q * 76263 + kk + 101) % 2305843009213693921)) := modF_ok (by decide)
  generalize (q * 76263 + kk + 101) % 2305843009213693921 = r at r0 r1 e6
  generalize hw : b % T = w at e0 e1
  by_cases hc18 : 1000000000000000000 ≤ b
  · refine ⟨pot (w * 1) r 0, ?_, _, _, _, rfl, r0, by omega, by decide, by decide⟩
    have e1' := e1 1 (by decide)
    unfold F_law_pot DL.runN
    simp only [m_law_pot, List.map_cons, List.map_nil, List.replicate, List.length_cons, List.length_nil, List.append_nil, List.nil_append, List.cons_append]
    simp [hc, hb, pow60, pT, pow18, e0, hc18, e1', e2, e3, e4, e5, e6, pot, e_ret, e_lift, e_bnd, e_var, e_C, e_op, e_un, e_nil, e_cons, e_fn, e_test, e_notT, e_andT, e_orT, e_notV, e_andV, e_orV, e_if, e_tt, e_ff, e_chain, e_tup, e_lst, e_next, e_seq, e_nx, e_rt, e_drop, e_mret, e_retN, e_set, e_asg, e_par, e_par3, e_par2N, e_setD, e_setM, e_own, e_isi, e_tupT, e_nilT, e_consT, e_lstN, e_dic0, e_fnN, e_callN, e_fzN, e_seqO, e_itA, e_for, e_attr, e_raise, e_make, e_part, e_slice, e_ixM, e_setIx, e_append, e_popAt, e_lenM, e_fz, e_call, e_prop, e_getM, e_putM, e_getD, e_ixD, e_inD, e_methS0, e_fldSet, e_callO, e_callS, e_seqN, e_opN, vv_gt, vv_ge, vv_geS, vv_lt, vv_le, vv_add, vv_addL, vv_addT, vv_sub, vv_neg, vv_abs, vv_int, vv_intb, vv_lenL, vv_lenT, vv_lenS, vv_ixL, vv_ixT, vv_b, vv_tup, vv_lst, vv_tupL, vv_tupT, vv_listN, vv_seqL, vv_seqT, vv_asc, vv_alpha, vv_lower, vv_strS, vv_moL, vv_moD, vv_tyI, vv_tyB, vv_tyS, vv_tyL, vv_tyT, vv_tyD, vv_tyN, vv_min, vv_max, vv_keys, vv_asI, vv_k1, vv_k2, vv_eq, vv_ne, vv_eqI, vv_ii, vv_ib, vv_bi, vv_bb, vv_tt, vv_ss, vv_dd, ixN, lstAt, dicAt, atI_0, atI_1, atI_2, outs, getMs, putM, putMs, ownB, isM, isS, okF, okI, sizeLine]
  · refine ⟨pot (w * 0) r 0, ?_, _, _, _, rfl, r0, by omega, by decide, by decide⟩
    have e1' := e1 0 (by decide)
    unfold F_law_pot DL.runN
    simp only [m_law_pot, List.map_cons, List.map_nil, List.replicate, List.length_cons, List.length_nil, List.append_nil, List.nil_append, List.cons_append]
    simp [hc, hb, pow60, pT, pow18, e0, hc18, e1', e2, e3, e4, e5, e6, pot, e_ret, e_lift, e_bnd, e_var, e_C, e_op, e_un, e_nil, e_cons, e_fn, e_test, e_notT, e_andT, e_orT, e_notV, e_andV, e_orV, e_if, e_tt, e_ff, e_chain, e_tup, e_lst, e_next, e_seq, e_nx, e_rt, e_drop, e_mret, e_retN, e_set, e_asg, e_par, e_par3, e_par2N, e_setD, e_setM, e_own, e_isi, e_tupT, e_nilT, e_consT, e_lstN, e_dic0, e_fnN, e_callN, e_fzN, e_seqO, e_itA, e_for, e_attr, e_raise, e_make, e_part, e_slice, e_ixM, e_setIx, e_append, e_popAt, e_lenM, e_fz, e_call, e_prop, e_getM, e_putM, e_getD, e_ixD, e_inD, e_methS0, e_fldSet, e_callO, e_callS, e_seqN, e_opN, vv_gt, vv_ge, vv_geS, vv_lt, vv_le, vv_add, vv_addL, vv_addT, vv_sub, vv_neg, vv_abs, vv_int, vv_intb, vv_lenL, vv_lenT, vv_lenS, vv_ixL, vv_ixT, vv_b, vv_tup, vv_lst, vv_tupL, vv_tupT, vv_listN, vv_seqL, vv_seqT, vv_asc, vv_alpha, vv_lower, vv_strS, vv_moL, vv_moD, vv_tyI, vv_tyB, vv_tyS, vv_tyL, vv_tyT, vv_tyD, vv_tyN, vv_min, vv_max, vv_keys, vv_asI, vv_k1, vv_k2, vv_eq, vv_ne, vv_eqI, vv_ii, vv_ib, vv_bi, vv_bb, vv_tt, vv_ss, vv_dd, ixN, lstAt, dicAt, atI_0, atI_1, atI_2, outs, getMs, putM, putMs, ownB, isM, isS, okF, okI, sizeLine]
theorem places_ok {xs : List Dat} (hl : xs.length ≤ 1000) : ∃ n : Nat, n ≤ 6 ∧ F_law_places [] [.lst xs, .int 6] = some (.ok (.lst (rgD 0 n)) []) := by
  have key : ∀ v : Int, 0 ≤ v → v ≤ 6 → rgLF [.int v] = some (.lst (rgD 0 v.toNat)) := fun v h0 h1 => by
    unfold rgLF
    have c : -(2 ^ 62) ≤ v ∧ v < 2 ^ 62 ∧ v.toNat ≤ 2 ^ 24 := ⟨by omega, by omega, by omega⟩
    exact if_pos c
  generalize hv : (if (if ((xs.length : Nat) : Int) < 6 then ((xs.length : Nat) : Int) else 6) > 1 then (if ((xs.length : Nat) : Int) < 6 then ((xs.length : Nat) : Int) else 6) else (1 : Int)) = v
  have hv1 : 0 ≤ v ∧ v ≤ 6 := by
    subst hv
    split <;> split <;> omega
  refine ⟨v.toNat, by omega, ?_⟩
  have e := key v hv1.1 hv1.2
  have hv' : max2F [.int 1, .int (if ((xs.length : Nat) : Int) < 6 then ((xs.length : Nat) : Int) else 6)] = some (.int v) := by rw [vv_max, hv]
  unfold F_law_places runF
  simp [m_law_places, hv', e, e_ret, e_lift, e_bnd, e_var, e_C, e_op, e_un, e_nil, e_cons, e_fn, e_test, e_notT, e_andT, e_orT, e_notV, e_andV, e_orV, e_if, e_tt, e_ff, e_chain, e_tup, e_lst, e_next, e_seq, e_nx, e_rt, e_drop, e_mret, e_retN, e_set, e_asg, e_par, e_par3, e_par2N, e_setD, e_setM, e_own, e_isi, e_tupT, e_nilT, e_consT, e_lstN, e_dic0, e_fnN, e_callN, e_fzN, e_seqO, e_itA, e_for, e_attr, e_raise, e_make, e_part, e_slice, e_ixM, e_setIx, e_append, e_popAt, e_lenM, e_fz, e_call, e_prop, e_getM, e_putM, e_getD, e_ixD, e_inD, e_methS0, e_fldSet, e_callO, e_callS, e_seqN, e_opN, vv_gt, vv_ge, vv_geS, vv_lt, vv_le, vv_add, vv_addL, vv_addT, vv_sub, vv_neg, vv_abs, vv_int, vv_intb, vv_lenL, vv_lenT, vv_lenS, vv_ixL, vv_ixT, vv_b, vv_tup, vv_lst, vv_tupL, vv_tupT, vv_listN, vv_seqL, vv_seqT, vv_asc, vv_alpha, vv_lower, vv_strS, vv_moL, vv_moD, vv_tyI, vv_tyB, vv_tyS, vv_tyL, vv_tyT, vv_tyD, vv_tyN, vv_min, vv_keys, vv_asI, vv_k1, vv_k2, vv_eq, vv_ne, vv_eqI, vv_ii, vv_ib, vv_bi, vv_bb, vv_tt, vv_ss, vv_dd, ixN, lstAt, dicAt, atI_0, atI_1, atI_2, outs, getMs, putM, putMs, ownB, isM, isS, okF, okI, sizeLine]
theorem law_ok {ns : List Int} (hl : ns.length ≤ 63) : F_law [] [.lst (ns.map Dat.int)] = some (.ok (.bl true) []) := by
  obtain ⟨n, hn, ep⟩ := places_ok (xs := ns.map Dat.int) (by rw [List.length_map]; omega)
  have rg2 : rg1O [.int 2] = some [.int 0, .int 1] := (rg1O_ok (by decide) (by decide)).trans rfl
  have turn : ∀ o k x, PotOk 0 o → ∃ o', mIf (mNotT (mTest (mFn allF (mCons (mLc [3] (mItA rg1O (mCons (mC (.int 2)) mNil)) (setD 3) (DL.ret true) (mCall [2] (okF F_law_right) [] mNil)) mNil)))) (mRet (mC (.bl false))) mNext [Sl.d x, .d k, .m false o, .no] = some (.ok .nx [Sl.d x, .d k, .m false o', .no]) := fun o k x ho => by
    obtain ⟨ys, g2, e, acc2, o2, hg2, ho2, hy⟩ := mLc_inv (vs := [3]) (t := setD 3) (mt := DL.ret true) (me := mCall [2] (okF F_law_right) [] mNil) (it := mItA rg1O (mCons (mC (.int 2)) mNil)) (g := [Sl.d x, .d k, .m false o, .no]) (g' := [Sl.d x, .d k, .m false o, .no]) (ds := [.int 0, .int 1])
      (fun r acc g => ∃ (ts : List Dat) (o : MO), g = [Sl.d x, .d k, .m false o, .no] ∧ PotOk (1000 * acc.length) o ∧ acc.length + r.length ≤ 2 ∧ acc = ts.map fun _ => Dat.bl true)
      (by simp [rg2, e_ret, e_lift, e_bnd, e_var, e_C, e_op, e_un, e_nil, e_cons, e_fn, e_test, e_notT, e_andT, e_orT, e_notV, e_andV, e_orV, e_if, e_tt, e_ff, e_chain, e_tup, e_lst, e_next, e_seq, e_nx, e_rt, e_drop, e_mret, e_retN, e_set, e_asg, e_par, e_par3, e_par2N, e_setD, e_setM, e_own, e_isi, e_tupT, e_nilT, e_consT, e_lstN, e_dic0, e_fnN, e_callN, e_fzN, e_seqO, e_itA, e_for, e_attr, e_raise, e_make, e_part, e_slice, e_ixM, e_setIx, e_append, e_popAt, e_lenM, e_fz, e_call, e_prop, e_getM, e_putM, e_getD, e_ixD, e_inD, e_methS0, e_fldSet, e_callO, e_callS, e_seqN, e_opN, vv_gt, vv_ge, vv_geS, vv_lt, vv_le, vv_add, vv_addL, vv_addT, vv_sub, vv_neg, vv_abs, vv_int, vv_intb, vv_lenL, vv_lenT, vv_lenS, vv_ixL, vv_ixT, vv_b, vv_tup, vv_lst, vv_tupL, vv_tupT, vv_listN, vv_seqL, vv_seqT, vv_asc, vv_alpha, vv_lower, vv_strS, vv_moL, vv_moD, vv_tyI, vv_tyB, vv_tyS, vv_tyL, vv_tyT, vv_tyD, vv_tyN, vv_min, vv_max, vv_keys, vv_asI, vv_k1, vv_k2, vv_eq, vv_ne, vv_eqI, vv_ii, vv_ib, vv_bi, vv_bb, vv_tt, vv_ss, vv_dd, ixN, lstAt, dicAt, atI_0, atI_1, atI_2, outs, getMs, putM, putMs, ownB, isM, isS, okF, okI, sizeLine]) rfl ⟨[], o, rfl, by simpa using ho, by decide, rfl⟩
      (fun d r acc g ⟨ts, o, hg, ho, hl, ha⟩ => by
        rw [List.length_cons] at hl
        obtain ⟨o', e, ho'⟩ := right_ok ho (by omega)
        refine ⟨by unfold sizeLine; omega, [Sl.d x, .d k, .m false o, .d d], true, _, ?_, rfl, ?_⟩
        · subst hg; simp [e_ret, e_lift, e_bnd, e_var, e_C, e_op, e_un, e_nil, e_cons, e_fn, e_test, e_notT, e_andT, e_orT, e_notV, e_andV, e_orV, e_if, e_tt, e_ff, e_chain, e_tup, e_lst, e_next, e_seq, e_nx, e_rt, e_drop, e_mret, e_retN, e_set, e_asg, e_par, e_par3, e_par2N, e_setD, e_setM, e_own, e_isi, e_tupT, e_nilT, e_consT, e_lstN, e_dic0, e_fnN, e_callN, e_fzN, e_seqO, e_itA, e_for, e_attr, e_raise, e_make, e_part, e_slice, e_ixM, e_setIx, e_append, e_popAt, e_lenM, e_fz, e_call, e_prop, e_getM, e_putM, e_getD, e_ixD, e_inD, e_methS0, e_fldSet, e_callO, e_callS, e_seqN, e_opN, vv_gt, vv_ge, vv_geS, vv_lt, vv_le, vv_add, vv_addL, vv_addT, vv_sub, vv_neg, vv_abs, vv_int, vv_intb, vv_lenL, vv_lenT, vv_lenS, vv_ixL, vv_ixT, vv_b, vv_tup, vv_lst, vv_tupL, vv_tupT, vv_listN, vv_seqL, vv_seqT, vv_asc, vv_alpha, vv_lower, vv_strS, vv_moL, vv_moD, vv_tyI, vv_tyB, vv_tyS, vv_tyL, vv_tyT, vv_tyD, vv_tyN, vv_min, vv_max, vv_keys, vv_asI, vv_k1, vv_k2, vv_eq, vv_ne, vv_eqI, vv_ii, vv_ib, vv_bi, vv_bb, vv_tt, vv_ss, vv_dd, ixN, lstAt, dicAt, atI_0, atI_1, atI_2, outs, getMs, putM, putMs, ownB, isM, isS, okF, okI, sizeLine]
        · rw [if_pos rfl]
          refine ⟨.bl true, [Sl.d x, .d k, .m false o', .d d], ?_, ts ++ [.non], o', rfl, ?_, ?_, ?_⟩
          · simp [e, e_ret, e_lift, e_bnd, e_var, e_C, e_op, e_un, e_nil, e_cons, e_fn, e_test, e_notT, e_andT, e_orT, e_notV, e_andV, e_orV, e_if, e_tt, e_ff, e_chain, e_tup, e_lst, e_next, e_seq, e_nx, e_rt, e_drop, e_mret, e_retN, e_set, e_asg, e_par, e_par3, e_par2N, e_setD, e_setM, e_own, e_isi, e_tupT, e_nilT, e_consT, e_lstN, e_dic0, e_fnN, e_callN, e_fzN, e_seqO, e_itA, e_for, e_attr, e_raise, e_make, e_part, e_slice, e_ixM, e_setIx, e_append, e_popAt, e_lenM, e_fz, e_call, e_prop, e_getM, e_putM, e_getD, e_ixD, e_inD, e_methS0, e_fldSet, e_callO, e_callS, e_seqN, e_opN, vv_gt, vv_ge, vv_geS, vv_lt, vv_le, vv_add, vv_addL, vv_addT, vv_sub, vv_neg, vv_abs, vv_int, vv_intb, vv_lenL, vv_lenT, vv_lenS, vv_ixL, vv_ixT, vv_b, vv_tup, vv_lst, vv_tupL, vv_tupT, vv_listN, vv_seqL, vv_seqT, vv_asc, vv_alpha, vv_lower, vv_strS, vv_moL, vv_moD, vv_tyI, vv_tyB, vv_tyS, vv_tyL, vv_tyT, vv_tyD, vv_tyN, vv_min, vv_max, vv_keys, vv_asI, vv_k1, vv_k2, vv_eq, vv_ne, vv_eqI, vv_ii, vv_ib, vv_bi, vv_bb, vv_tt, vv_ss, vv_dd, ixN, lstAt, dicAt, atI_0, atI_1, atI_2, outs, getMs, putM, putMs, ownB, isM, isS, okF, okI, sizeLine]
          · rw [List.length_append, List.length_singleton]; exact ho'.mono (by omega)
          · rw [List.length_append, List.length_singleton]; omega
          · rw [ha]; simp)
    have al := allT 0 (ds := acc2)
    rw [← hy.2] at al
    refine ⟨o2, ?_⟩
    simp [e, hg2, al, backG, e_ret, e_lift, e_bnd, e_var, e_C, e_op, e_un, e_nil, e_cons, e_fn, e_test, e_notT, e_andT, e_orT, e_notV, e_andV, e_orV, e_if, e_tt, e_ff, e_chain, e_tup, e_lst, e_next, e_seq, e_nx, e_rt, e_drop, e_mret, e_retN, e_set, e_asg, e_par, e_par3, e_par2N, e_setD, e_setM, e_own, e_isi, e_tupT, e_nilT, e_consT, e_lstN, e_dic0, e_fnN, e_callN, e_fzN, e_seqO, e_itA, e_for, e_attr, e_raise, e_make, e_part, e_slice, e_ixM, e_setIx, e_append, e_popAt, e_lenM, e_fz, e_call, e_prop, e_getM, e_putM, e_getD, e_ixD, e_inD, e_methS0, e_fldSet, e_callO, e_callS, e_seqN, e_opN, vv_gt, vv_ge, vv_geS, vv_lt, vv_le, vv_add, vv_addL, vv_addT, vv_sub, vv_neg, vv_abs, vv_int, vv_intb, vv_lenL, vv_lenT, vv_lenS, vv_ixL, vv_ixT, vv_b, vv_tup, vv_lst, vv_tupL, vv_tupT, vv_listN, vv_seqL, vv_seqT, vv_asc, vv_alpha, vv_lower, vv_strS, vv_moL, vv_moD, vv_tyI, vv_tyB, vv_tyS, vv_tyL, vv_tyT, vv_tyD, vv_tyN, vv_min, vv_max, vv_keys, vv_asI, vv_k1, vv_k2, vv_eq, vv_ne, vv_eqI, vv_ii, vv_ib, vv_bi, vv_bb, vv_tt, vv_ss, vv_dd, ixN, lstAt, dicAt, atI_0, atI_1, atI_2, outs, getMs, putM, putMs, ownB, isM, isS, okF, okI, sizeLine]
  have loop := fun ds g => @forL_inv (setD 1) (mSeq (mOwn 2 (mCallN F_law_pot (mCons (mVar 0) (mCons (mVar 1) mNil)))) (mIf (mNotT (mTest (mFn allF (mCons (mLc [3] (mItA rg1O (mCons (mC (.int 2)) mNil)) (setD 3) (DL.ret true) (mCall [2] (okF F_law_right) [] mNil)) mNil)))) (mRet (mC (.bl false))) mNext))
    (fun r g => ∃ x y, g = [Sl.d (.lst (ns.map Dat.int)), x, y, .no] ∧ (x = .no ∨ ∃ d, x = .d d) ∧ (y = .no ∨ ∃ o, y = .m false o) ∧ ∀ d ∈ r, ∃ k : Int, d = .int k ∧ 0 ≤ k ∧ k < 1000)
    (fun d r g ⟨x, y, hg, hx, hy, hr⟩ => by
      obtain ⟨k, rfl, k0, k1⟩ := hr d List.mem_cons_self
      obtain ⟨o, e1, p1⟩ := pot_ok (ns := ns) k0 k1 (by omega)
      obtain ⟨o', e2⟩ := turn o (.int k) (.lst (ns.map Dat.int)) p1
      refine ⟨[Sl.d (.lst (ns.map Dat.int)), .d (.int k), y, .no], [Sl.d (.lst (ns.map Dat.int)), .d (.int k), .m false o', .no], ?_, ?_, _, _, rfl, .inr ⟨_, rfl⟩, .inr ⟨_, rfl⟩, fun d hd => hr d (List.mem_cons_of_mem _ hd)⟩
      · subst hg
        rcases hx with rfl | ⟨d, rfl⟩ <;> rcases hy with rfl | ⟨d', rfl⟩ <;> simp [e_ret, e_lift, e_bnd, e_var, e_C, e_op, e_un, e_nil, e_cons, e_fn, e_test, e_notT, e_andT, e_orT, e_notV, e_andV, e_orV, e_if, e_tt, e_ff, e_chain, e_tup, e_lst, e_next, e_seq, e_nx, e_rt, e_drop, e_mret, e_retN, e_set, e_asg, e_par, e_par3, e_par2N, e_setD, e_setM, e_own, e_isi, e_tupT, e_nilT, e_consT, e_lstN, e_dic0, e_fnN, e_callN, e_fzN, e_seqO, e_itA, e_for, e_attr, e_raise, e_make, e_part, e_slice, e_ixM, e_setIx, e_append, e_popAt, e_lenM, e_fz, e_call, e_prop, e_getM, e_putM, e_getD, e_ixD, e_inD, e_methS0, e_fldSet, e_callO, e_callS, e_seqN, e_opN, vv_gt, vv_ge, vv_geS, vv_lt, vv_le, vv_add, vv_addL, vv_addT, vv_sub, vv_neg, vv_abs, vv_int, vv_intb, vv_lenL, vv_lenT, vv_lenS, vv_ixL, vv_ixT, vv_b, vv_tup, vv_lst, vv_tupL, vv_tupT, vv_listN, vv_seqL, vv_seqT, vv_asc, vv_alpha, vv_lower, vv_strS, vv_moL, vv_moD, vv_tyI, vv_tyB, vv_tyS, vv_tyL, vv_tyT, vv_tyD, vv_tyN, vv_min, vv_max, vv_keys, vv_asI, vv_k1, vv_k2, vv_eq, vv_ne, vv_eqI, vv_ii, vv_ib, vv_bi, vv_bb, vv_tt, vv_ss, vv_dd, ixN, lstAt, dicAt, atI_0, atI_1, atI_2, outs, getMs, putM, putMs, ownB, isM, isS, okF, okI, sizeLine]
      · generalize mIf _ _ _ = B at e2 ⊢
        rcases hy with rfl | ⟨d', rfl⟩ <;> simp [e1, e2, e_ret, e_lift, e_bnd, e_var, e_C, e_op, e_un, e_nil, e_cons, e_fn, e_test, e_notT, e_andT, e_orT, e_notV, e_andV, e_orV, e_if, e_tt, e_ff, e_chain, e_tup, e_lst, e_next, e_seq, e_nx, e_rt, e_drop, e_mret, e_retN, e_set, e_asg, e_par, e_par3, e_par2N, e_setD, e_setM, e_own, e_isi, e_tupT, e_nilT, e_consT, e_lstN, e_dic0, e_fnN, e_callN, e_fzN, e_seqO, e_itA, e_for, e_attr, e_raise, e_make, e_part, e_slice, e_ixM, e_setIx, e_append, e_popAt, e_lenM, e_fz, e_call, e_prop, e_getM, e_putM, e_getD, e_ixD, e_inD, e_methS0, e_fldSet, e_callO, e_callS, e_seqN, e_opN, vv_gt, vv_ge, vv_geS, vv_lt, vv_le, vv_add, vv_addL, vv_addT, vv_sub, vv_neg, vv_abs, vv_int, vv_intb, vv_lenL, vv_lenT, vv_lenS, vv_ixL, vv_ixT, vv_b, vv_tup, vv_lst, vv_tupL, vv_tupT, vv_listN, vv_seqL, vv_seqT, vv_asc, vv_alpha, vv_lower, vv_strS, vv_moL, vv_moD, vv_tyI, vv_tyB, vv_tyS, vv_tyL, vv_tyT, vv_tyD, vv_tyN, vv_min, vv_max, vv_keys, vv_asI, vv_k1, vv_k2, vv_eq, vv_ne, vv_eqI, vv_ii, vv_ib, vv_bi, vv_bb, vv_tt, vv_ss, vv_dd, ixN, lstAt, dicAt, atI_0, atI_1, atI_2, outs, getMs, putM, putMs, ownB, isM, isS, okF, okI, sizeLine]) ds g
  obtain ⟨g', e, x, y, hg, _⟩ := loop (rgD 0 n) [Sl.d (.lst (ns.map Dat.int)), .no, .no, .no] ⟨_, _, rfl, .inl rfl, .inl rfl, fun d hd => by
    obtain ⟨i, hi, rfl⟩ := List.mem_map.mp hd
    have := List.mem_range.mp hi
    exact ⟨_, rfl, by omega, by omega⟩⟩
  generalize hB : (mSeq (mOwn 2 (mCallN F_law_pot (mCons (mVar 0) (mCons (mVar 1) mNil)))) (mIf (mNotT (mTest (mFn allF (mCons (mLc [3] (mItA rg1O (mCons (mC (.int 2)) mNil)) (setD 3) (DL.ret true) (mCall [2] (okF F_law_right) [] mNil)) mNil)))) (mRet (mC (.bl false))) mNext)) = B at e
  generalize ns.map Dat.int = xs at *
  unfold F_law runF
  simp only [m_law, hB, List.map_cons, List.map_nil, List.replicate, List.length_cons, List.length_nil, List.append_nil, List.nil_append, List.cons_append]
  simp [ep, e, hg, e_ret, e_lift, e_bnd, e_var, e_C, e_op, e_un, e_nil, e_cons, e_fn, e_test, e_notT, e_andT, e_orT, e_notV, e_andV, e_orV, e_if, e_tt, e_ff, e_chain, e_tup, e_lst, e_next, e_seq, e_nx, e_rt, e_drop, e_mret, e_retN, e_set, e_asg, e_par, e_par3, e_par2N, e_setD, e_setM, e_own, e_isi, e_tupT, e_nilT, e_consT, e_lstN, e_dic0, e_fnN, e_callN, e_fzN, e_seqO, e_itA, e_for, e_attr, e_raise, e_make, e_part, e_slice, e_ixM, e_setIx, e_append, e_popAt, e_lenM, e_fz, e_call, e_prop, e_getM, e_putM, e_getD, e_ixD, e_inD, e_methS0, e_fldSet, e_callO, e_callS, e_seqN, e_opN, vv_gt, vv_ge, vv_geS, vv_lt, vv_le, vv_add, vv_addL, vv_addT, vv_sub, vv_neg, vv_abs, vv_int, vv_intb, vv_lenL, vv_lenT, vv_lenS, vv_ixL, vv_ixT, vv_b, vv_tup, vv_lst, vv_tupL, vv_tupT, vv_listN, vv_seqL, vv_seqT, vv_asc, vv_alpha, vv_lower, vv_strS, vv_moL, vv_moD, vv_tyI, vv_tyB, vv_tyS, vv_tyL, vv_tyT, vv_tyD, vv_tyN, vv_min, vv_max, vv_keys, vv_asI, vv_k1, vv_k2, vv_eq, vv_ne, vv_eqI, vv_ii, vv_ib, vv_bi, vv_bb, vv_tt, vv_ss, vv_dd, ixN, lstAt, dicAt, atI_0, atI_1, atI_2, outs, getMs, putM, putMs, ownB, isM, isS, okF, okI, sizeLine]
end K04

set_option Elab.async false
set_option linter.all false
set_option maxRecDepth 100000
set_option maxHeartbeats 4000000
open PySem PySem.W PySem.Calls PyProof.Rows
theorem PySem.Challenge.cw_dialsums_k04_whole_sums_reckoned_holds : PySem.Challenge.rw_dialsums_k04_whole_sums_reckoned.Holds := by
  w_on; o_law
  refine HandSHeadRun.head_any (r := OpenLaw.row PySem.Challenge.rw_dialsums_k04_whole_sums_reckoned) (q := view (OpenLaw.row PySem.Challenge.rw_dialsums_k04_whole_sums_reckoned).prog [45]) (H := K04.hk) (ob := K04.ob) (M := 20000) (loose := K04.loose)
    (d := HandSHeadRun.topDef (OpenLaw.row PySem.Challenge.rw_dialsums_k04_whole_sums_reckoned).prog 45) (kwd := []) K04.ob_eq
    (by kernel_rfl) (fun s => by kernel_rfl) K04.run (by kernel_rfl) (by kernel_rfl) (by kernel_rfl) (by rfl) (by first | assumption | decide +kernel)
    (by decide +kernel) ⟨rfl, rfl, rfl, rfl, rfl, by decide +kernel⟩ ?hw ?hc
  case hw => w_witness2
  case hc =>
    refine GX.walkG (l := PySem.Challenge.rw_dialsums_k04_whole_sums_reckoned) (n := 63) (k := 13) (x := "_law_script") (CX := L2.CX0) rfl (by decide) (by kernel_rfl) ⟨rfl, by decide, by decide⟩ ?F (fun _ _ _ _ z => z)
    intro w mg fa h Y G hmg0
    obtain ⟨K, KX, c⟩ := Y
    have hmg : mg ("law" : PySem.Str) = some (.ref fa) := by
      have e : (HandSHeadRun.topDef (OpenLaw.row PySem.Challenge.rw_dialsums_k04_whole_sums_reckoned).prog 45).name = ("law" : PySem.Str) := by kernel_rfl
      rw [← e]
      exact hmg0
    obtain ⟨nl, fd, hb, hF⟩ := K04.facts (P := (PySem.Challenge.rw_dialsums_k04_whole_sums_reckoned).prog) (w := w) KX G hmg c
    refine ⟨K, fd, _, KX, hb, fun H a ns hl hO hS => ?_, fun base _ _ => hF base⟩
    have dd := K04.arg_dd (mg := mg) nl hO hS
    exact DL.call_obj (.cons dd .nil) rfl (K04.law_ok hl) (fun d e v H' s dv => by cases e; cases dv; rfl) (fun c w e => by cases e) (fun d os e => by cases e; rfl) (fun c w os e => by cases e)

