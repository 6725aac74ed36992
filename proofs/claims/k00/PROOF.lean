import PyProof.Rows.All
import Wide.All
import OpenK.AllK
import Wide.FinOn
import HandS.ForMost
import HandS.ForSpec
import HandS.Defaults
import HandS.Wide
import HandS.WideMore
import HandS.IsInst
import HandS.ExcInit
import HandS.ExcIs
import HandS.Deep
import HandS.Sort
import HandS.SortKw
import HandS.TupAny
import HandS.TupLen
import HandS.RevTup
import HandS.Style
import HandS.Flow
import HandS.Head0
import HandS.Head1
import HandS.Head2
import HandS.HeadEnd
import HandS.HeadHook1
import HandS.HeadHook2
import PyProof.StrLawsRepr
import PyProof.RowDictHeap
import KE.KExcIs
import HandS.Conv
import HandS.Text
import PySem.Challenge.RW_dialsums_k00_errors_keep_their_values
set_option Elab.async false
set_option linter.all false
set_option maxRecDepth 100000
set_option maxHeartbeats 4000000
/-! G0: defs whose callers' guards are known to be none (so that repr of tuples and lists can be told), their calls, the end of a law. -/
namespace GX
open PySem PySem.Spec PyProof.Rows L2

/-! ### room and guards -/
structure RmG (k : Nat) (A : Around) : Prop where
  rm : Room k A
  gd : A.guards = some []
theorem RmG.mono {j k : Nat} {A : Around} (r : RmG k A) (h : j ≤ k) : RmG j A := ⟨r.rm.mono h, r.gd⟩
theorem RmG.deeper {k : Nat} {A : Around} (r : RmG (k + 1) A) (env : Env) : RmG k (A.deeper env) := ⟨r.rm.deeper env, r.gd⟩
theorem RmG.make {k : Nat} {A : Around} (r : RmG (k + 1) A) (C : Addr) (us : List Value) (kw : List (Str × Value)) :
    RmG k (A.under (.builtin "type.__call__" ⟨.ref C :: us, kw⟩)) := by
  refine ⟨r.rm.make C us kw, ?_⟩
  have e : (Code.builtin "type.__call__" ⟨.ref C :: us, kw⟩).guards = [] := by
    simp [Code.guards, Code.isGuard, guardIds]
  show pushGuards (Code.builtin "type.__call__" ⟨.ref C :: us, kw⟩).guards A.guards = some []
  rw [e]
  exact r.gd
theorem RmG.caller {k : Nat} (h : Room k callerA) : RmG k callerA := ⟨h, rfl⟩

/-! ### what a def keeps -/
structure FnG (P : Program) (w : World) (K : PySem.W.Frag) (mg : Str → Option Value) (base : Heap) (CX : CXT) (k : Nat) (f : Addr) (fd : FuncData) (ps : List Str) (sp : Sp) : Prop where
  len : ∀ vs H Q E, sp vs H Q E → vs.length = ps.length
  run : ∀ (A : Around) (outer : List Env) (s : Shared) (H : Hp) (args : Args) (us : List Value) (vs : List V) (Q : VK) (E : XK), RmG k A →
    Env0 P w K mg base A outer s H → BindsTo s fd args (ps.zip us) → Vals vs us → sp vs H Q E → codeAny (model P w) A (.call (.ref f) args) (CR CX outer P w H s Q E) s
theorem FnG.mono {P : Program} {w : World} {K : PySem.W.Frag} {mg : Str → Option Value} {base : Heap} {CX : CXT} {j k : Nat} {f : Addr} {fd : FuncData} {ps : List Str} {sp : Sp}
    (F : FnG P w K mg base CX j f fd ps sp) (h : j ≤ k) : FnG P w K mg base CX k f fd ps sp :=
  ⟨F.len, fun A outer s H args us vs Q E hr => F.run A outer s H args us vs Q E (hr.mono h)⟩
theorem FnG.imp {P : Program} {w : World} {K : PySem.W.Frag} {mg : Str → Option Value} {base : Heap} {CX : CXT} {k : Nat} {f : Addr} {fd : FuncData} {ps : List Str} {sp sp' : Sp}
    (F : FnG P w K mg base CX k f fd ps sp) (h : ∀ vs H Q E, sp' vs H Q E → sp vs H Q E) : FnG P w K mg base CX k f fd ps sp' :=
  ⟨fun vs H Q E q => F.len vs H Q E (h _ _ _ _ q), fun A outer s H args us vs Q E hr e0 hb hv hs => F.run A outer s H args us vs Q E hr e0 hb hv (h _ _ _ _ hs)⟩

/-- a def by its body -/
theorem fnG_of {CX : CXT} {P : Program} {w : World} {K : PySem.W.Frag} {mg : Str → Option Value} {base : Heap} {k : Nat} {f : Addr} {name qual : Str} {params : Arguments} {body : List Stmt} {scope : Scope} {dV kV doc pm cdv ct oc : Value} {an od : Option Addr}
    {osl : Array (Option Value)} {N ps : List Str} {sp : Sp} (lk : K.lookup f = some ⟨oc, od, .func (PySem.W.fnOf name qual params body scope dV kV doc pm an cdv ct), osl⟩)
    (hcd : PySem.W.codeIn K cdv qual = true) (S : FnScope N ps scope) (len : ∀ vs H Q E, sp vs H Q E → vs.length = ps.length)
    (hbody : ∀ (A : Around) (outer : List Env) (s : Shared) (H : Hp) (vs : List V) (Q : VK) (E : XK), RmG k (A.deeper (envOfC qual scope s.heap.objs.size f cdv)) → sp vs H Q E →
      ∃ t, PSs (cxOf CX P w K mg base N qual scope f cdv A outer s H E) body t ∧ t { nx := fun _ H' => Q .non H', rt := Q } (start N vs) H) :
    FnG P w K mg base CX (k + 1) f (PySem.W.fnOf name qual params body scope dV kV doc pm an cdv ct) ps sp := by
  refine ⟨len, fun A outer s H args us vs Q E hr e0 hb r hsp => ?_⟩
  have hl := len _ _ _ _ hsp
  have KX : K.In s.heap := e0.mod.kin.keeps fun b o e => (e0.bs b o e).1
  have nolim : s.heap.NoLimit := e0.mod.nolimit.keeps fun b o e => (e0.bs b o e).1
  have kinds : ∀ y ∈ ps.zip us, scope.names.lookup y.1 = some .local ∨ (scope.names.lookup y.1 = some .cell ∧ ((cellsFrom (s.heap.objs.size + 1) scope.names []).lookup y.1).isSome = true) := by
    rintro ⟨n, v⟩ hy
    exact (S.par n (List.of_mem_zip hy).1).imp id fun q => ⟨q, PySem.W.cellsFrom_some _ _ _ (.inl q)⟩
  refine codeAny_call_function hr.rm.depth (KX _ _ lk) rfl S.co S.gen rfl (PySem.W.codeRec_of KX hcd) (hb _ _ _ _ ?_)
  refine wpAny_newFunctionEnv_cells S.kind kinds fun env he s1 x => ?_
  subst he
  refine ⟨nolim.keeps x.toInCall.keep, codeAny_func ?_⟩
  obtain ⟨t, ht, hq⟩ := hbody A outer s H vs Q E (hr.deeper _) hsp
  have I := inv_start (CX := CX) (E := E) S hr.rm.hd e0 hl r x
  refine wpAny_mono (ht.run [] s1 (start N vs) H _ I hq) (fun fl s' hs => ?_) fun e s' hs => hs
  cases fl with
  | ret u =>
    obtain ⟨v, σ', H', J, rv, q⟩ := hs
    exact ⟨v, H', J.os, J.bare, J.base, J.hok, rv, q⟩
  | next =>
    obtain ⟨σ', H', J, q⟩ := hs
    exact ⟨V.non, H', J.os, J.bare, J.base, J.hok, rfl, q⟩
  | brk => exact (hs.elim fun _ z => z.elim fun _ z => z.2).elim
  | cont => exact (hs.elim fun _ z => z.elim fun _ z => z.2).elim
/-- the same from what a head tells of the def -/
theorem fnG {CX : CXT} {P : Program} {w : World} {K : PySem.W.Frag} {mg : Str → Option Value} {base : Heap} {x qual : Str} {params : Arguments} {body : List Stmt} {scope : Scope} {dvs : List V} {kws : List (Str × V)} {f : Addr} {fd : FuncData} {N ps : List Str} {k : Nat} {sp : Sp}
    (F : FunD K x qual params body scope dvs kws f fd) (S : FnScope N ps scope) (len : ∀ vs H Q E, sp vs H Q E → vs.length = ps.length)
    (hbody : ∀ (cdv : Value) (A : Around) (outer : List Env) (s : Shared) (H : Hp) (vs : List V) (Q : VK) (E : XK), RmG k (A.deeper (envOfC qual scope s.heap.objs.size f cdv)) → sp vs H Q E →
      ∃ t, PSs (cxOf CX P w K mg base N qual scope f cdv A outer s H E) body t ∧ t { nx := fun _ H' => Q .non H', rt := Q } (start N vs) H) : FnG P w K mg base CX (k + 1) f fd ps sp := by
  obtain ⟨oc, od, dV, kV, doc, pm, an, cdv, ct, osl, rfl, lk, hcd, _, _⟩ := F.ex
  exact fnG_of lk hcd S len fun A outer s H vs Q E hr hsp => hbody cdv A outer s H vs Q E hr hsp

/-- the same, nothing raised leaves the def -/
theorem fnG0 {P : Program} {w : World} {K : PySem.W.Frag} {mg : Str → Option Value} {base : Heap} {x qual : Str} {params : Arguments} {body : List Stmt} {scope : Scope} {dvs : List V} {kws : List (Str × V)} {f : Addr} {fd : FuncData} {N ps : List Str} {k : Nat} {sp : Sp}
    (F : FunD K x qual params body scope dvs kws f fd) (S : FnScope N ps scope) (len : ∀ vs H Q E, sp vs H Q E → vs.length = ps.length)
    (hbody : ∀ (cdv : Value) (A : Around) (outer : List Env) (s : Shared) (H : Hp) (vs : List V) (Q : VK) (E : XK), RmG k (A.deeper (envOfC qual scope s.heap.objs.size f cdv)) → sp vs H Q E →
      ∃ t, PSs (cxOf CX0 P w K mg base N qual scope f cdv A outer s H E).nox body t ∧ t { nx := fun _ H' => Q .non H', rt := Q } (start N vs) H) : FnG P w K mg base CX0 (k + 1) f fd ps sp :=
  fnG F S len fun cdv A outer s H vs Q E hr h => let ⟨t, h1, h2⟩ := hbody cdv A outer s H vs Q E hr h; ⟨t, h1.nox, h2⟩

/-! ### calls -/
section
variable {X : Cx} {CX : CXT} {k : Nat} {f C : Addr} {fd : FuncData} {ps : List Str} {sp : Sp} {dvs : List V} {ds : List Value} {E : XK} {x m : Str} {p pos apos : Pos} {e o : Expr} {es : List Expr} {ta : TE} {t : TA}
theorem run_fnG {pins : List (Addr × Obj)} {σ : L2.St} {H : Hp} {s : Shared} {Q : VK} {us : List Value} {vs : List V} (F : FnG X.prog X.w X.K X.mg X.base CX k f fd ps sp) (hr : RmG k X.A) (hb : Binds X.K fd ps ds) (hd : Vals dvs ds) (hx : Passes CX X E)
    (I : Inv X pins σ H s) (r : Vals vs us) (h : sp (vs ++ dvs) H Q E) : wpAny (model X.prog X.w) X.A (call (.ref f) us) (EP X pins σ Q) X.xe s := by
  have r2 := r.append hd
  have hl : (us ++ ds).length = ps.length := r2.length.symm.trans (F.len _ _ _ _ h)
  refine wpAny_call (codeAny_mono (F.run X.A X.stack s H ⟨us, []⟩ (us ++ ds) (vs ++ dvs) Q E hr I.env0 (hb s us I.kIn hl) r2 h) fun r s' hq => ?_)
  cases r with
  | error e => exact hx pins σ H s e s' I hq
  | ok fl =>
    cases fl with
    | ret u => exact I.after hq
    | _ => exact False.elim hq
/-- f(e, ..) -/
theorem pe_callG (F : FnG X.prog X.w X.K X.mg X.base CX k f fd ps sp) (hr : RmG k X.A) (hg : Gl X x) (hm : X.mg x = some (.ref f)) (hk : PySem.W.keepIn X.K (.ref f) = true) (hb : Binds X.K fd ps ds) (hd : Vals dvs ds) (hx : Passes CX X E)
    (ha : PA X (e :: es) t) (hdb : (x == ("__debug__" : Str)) = false := by decide) (he : starEach (e :: es) X.env = (false, eval e X.env) :: starEach es X.env := by rfl) (hpl : (backTo pos (starEach es X.env)).any (·.1) = false := by rfl) :
    PE X (.Call (.Name x p) (e :: es) [] pos) (tCall sp dvs E t) :=
  ⟨fun pins s σ H Q I h => wpAny_Call_Name_kw (ld_glob I hg hm (PySem.W.callWith_K (h₀ := X.base) I.ok.mod.kin hk
    (thn (ha.run pos pins s σ H _ I h) fun us s1 ⟨vs, H1, I1, r, q⟩ => ⟨I1.kIn, run_fnG F hr hb hd hx I1 r q⟩) he hpl) hdb)⟩
/-- f() -/
theorem pe_callG0 (F : FnG X.prog X.w X.K X.mg X.base CX k f fd ps sp) (hr : RmG k X.A) (hg : Gl X x) (hm : X.mg x = some (.ref f)) (hk : PySem.W.keepIn X.K (.ref f) = true) (hb : Binds X.K fd ps ds) (hd : Vals dvs ds) (hx : Passes CX X E)
    (hdb : (x == ("__debug__" : Str)) = false := by decide) : PE X (.Call (.Name x p) [] [] pos) (tCall sp dvs E tNil) :=
  ⟨fun pins s σ H Q I h => wpAny_Call_Name_kw (ld_glob I hg hm (PySem.W.callWith_K0 I.kIn hk (run_fnG (us := []) F hr hb hd hx I .nil h)) hdb)⟩
end

/-! ### an exception of an own class, made as a value: its object is tracked -/
/-- C(e, ..): C's __init__ keeps sp -/
def tMkV (C : Addr) (sp : Sp) (E : XK) (ta : TA) : TE := fun σ H Q => ta σ H fun vs H1 => vs.length ≤ 1000 ∧ ∀ a, H1 a = none → sp (.ref a :: vs) (upd H1 a (exo a C none)) (fun v H2 => v = .non ∧ Q (.ref a) H2) E
section
variable {X : Cx} {CX : CXT} {k : Nat} {fI C : Addr} {fd : FuncData} {ps : List Str} {sp : Sp} {E : XK} {x : Str} {p pos : Pos} {e : Expr} {es : List Expr} {ta : TA}
theorem pe_mkV (T : OexC X.K C) (iC : PySem.W.findIn X.K (.ref C) "__init__" = some (some (.ref fI))) (tI : PySem.W.typeIn X.K (.ref fI) = some (.type "function"))
    (F1 : FnG X.prog X.w X.K X.mg X.base CX k fI fd ps sp) (hr : RmG (k + 1) X.A) (hb : Binds X.K fd ps []) (hx : Passes CX X E) (hg : Gl X x) (hm : X.mg x = some (.ref C)) (ha : PA X (e :: es) ta)
    (hdb : (x == ("__debug__" : Str)) = false := by decide) (he : starEach (e :: es) X.env = (false, eval e X.env) :: starEach es X.env := by rfl) (hpl : (backTo pos (starEach es X.env)).any (·.1) = false := by rfl) :
    PE X (.Call (.Name x p) (e :: es) [] pos) (tMkV C sp E ta) := by
  refine ⟨fun pins s σ H Q I h => ?_⟩
  obtain ⟨nm, q, N, bs, bm, sn, sub, ab, col, dd, k0, k1, k2, k3, k5, hC, hbm⟩ := T.cls
  refine wpAny_Call_Name_kw (ld_glob I hg hm ?_ hdb)
  refine PySem.W.callWith_K (h₀ := X.base) I.ok.mod.kin T.kC (thn (ha.run pos pins s σ H _ I h) fun us s1 ⟨vs, H1, I1, r1, hz, q1⟩ => ⟨I1.kIn, ?_⟩) he hpl
  show wpAny _ _ (call (.ref C) us) _ _ _
  obtain ⟨hp, g, dr, tk, os⟩ := s1
  have big : hp.objs.size ≤ hp.objs.size + 1 := Nat.le_succ _
  have hq := q1 (hp.objs.size + 1) (I1.hok.fresh big)
  have kp : ∀ b o, hp.get? b = some o → ((hp.push (PySem.W.kdv_tup us)).push (PySem.HandSPX.excO C hp.objs.size)).get? b = some o := fun b o z => Heap.get?_push_of_some _ (Heap.get?_push_of_some _ z)
  have got : ((hp.push (PySem.W.kdv_tup us)).push (PySem.HandSPX.excO C hp.objs.size)).get? (hp.objs.size + 1) = some (PySem.HandSPX.excO C hp.objs.size) := by heap_get
  have I2 := I1.laid (t' := tk) (a := hp.objs.size + 1) (o := exo (hp.objs.size + 1) C none) kp big (exo_ok got)
  have r2 : Vals (V.ref (hp.objs.size + 1) :: vs) (Value.ref (hp.objs.size + 1) :: us) := .cons rfl r1
  have hl : ((Value.ref (hp.objs.size + 1) :: us) ++ []).length = ps.length := by
    rw [List.append_nil, ← r2.length, F1.len _ _ _ _ hq]
  have hus : us.length ≤ sizeLine := by
    rw [← Paired.length r1, sizeLine_eq]
    omega
  have hbt := hb _ (Value.ref (hp.objs.size + 1) :: us) I2.kIn hl
  rw [List.append_nil] at hbt
  refine wpAny_call (PySem.HandSPX.call_own F.excBase_ValueError (fun Y => PySem.HandSPX.refsVE_contains Y bm hbm) (I1.kIn _ _ hC) (PySem.W.looks_findIn I1.kIn iC) (fun self => PySem.W.bind_fn I1.kIn self tI) hus
    (codeAny_mono (F1.run _ X.stack _ _ ⟨Value.ref (hp.objs.size + 1) :: us, []⟩ _ _ _ E (hr.make C us []) (I2.env0.make C us []) hbt r2 hq) fun r s' hq' => ?_))
  cases r with
  | error er => exact hx pins σ _ _ er s' I2 hq'
  | ok fl =>
    cases fl with
    | ret u =>
      obtain ⟨v, H2, I3, rv, ev, q2⟩ := I2.after hq'
      subst ev
      exact ⟨rv, ⟨V.ref (hp.objs.size + 1), H2, I3, rfl, q2⟩⟩
    | _ => exact False.elim hq'
end

/-! ### a law's end -/
theorem law_callG {P : Program} {w : World} {K : PySem.W.Frag} {mg mb : Str → Option Value} {CX : CXT} {k : Nat} {fa a : Addr} {fd : FuncData} {x : Str} {sp : Sp} {s₁ : Shared} {vs : List Value} {ns : List Int}
    (KX : K.In s₁.heap) (hns : s₁.heap.Ns mainGlobals mg) (hb : s₁.heap.Ns builtinsNs mb) (hbb : ∀ x : Str, x ≠ "__name__" → mb x = bootBuiltins x) (hlim : s₁.heap.NoLimit) (hg : s₁.gens = #[])
    (ha : s₁.heap.get? a = some { cls := .type "list", data := .seq vs.toArray }) (hi : IntsAre vs ns) (hl : ns.length ≤ sizeLine) (hr : Room k callerA)
    (F : ∀ base : Heap, K.In base → base.Ns mainGlobals mg → FnG P w K mg base CX k fa fd [x] sp) (hbind : ∀ (s : Shared) (u : Value), BindsTo s fd ⟨[u], []⟩ [(x, u)])
    (hsp : ∀ H : Hp, Only H → SqL K H a (ns.map V.int) → sp [.ref a] H (fun v _ => v = .bl true) fun _ _ _ => False)
    (hCX : ∀ H e s', CX [] H s₁ (fun _ _ _ => False) e s' → False) :
    codeAny (model P w) callerA (.call (.ref fa) ⟨[.ref a], []⟩) (fun r s' => r = .ok (.ret (.bool true)) ∧ OldK s₁.heap s'.heap ∧ s'.os = s₁.os ∧ AllBare s'.gens) s₁ := by
  have rv := vals_ints hi
  have core : ∀ H : Hp, Only H → SqL K H a (ns.map V.int) → HOk P w H s₁.heap → (∀ b, H b ≠ none → b = a) → (H a ≠ none → K.lookup a = none) →
      codeAny (model P w) callerA (.call (.ref fa) ⟨[.ref a], []⟩) (fun r s' => r = .ok (.ret (.bool true)) ∧ OldK s₁.heap s'.heap ∧ s'.os = s₁.os ∧ AllBare s'.gens) s₁ := by
    intro H hO hS hok hA hK
    have stay : ∀ {b : Addr} {o : Obj}, s₁.heap.get? b = some o → (b = a → False) → (hidT s₁.heap H).get? b = some o := fun {b o} e n => hidT_get e (by
      cases q : H b with
      | none => rfl
      | some u => exact (n (hA b (by rw [q]; exact fun z => nomatch z))).elim)
    have ns' : ∀ {b : Addr} {m : Str → Option Value}, s₁.heap.Ns b m → (hidT s₁.heap H).Ns b m := fun {b m} ⟨o, es, ep, e, d, r⟩ => ⟨o, es, ep, stay e (fun z => by
      subst z
      rw [ha] at e
      cases e
      cases d), d, r⟩
    have hKb : K.In (hidT s₁.heap H) := fun b o e => by
      refine hidT_get (KX b o e) ?_
      cases q : H b with
      | none => rfl
      | some u =>
        have e' := hA b (by rw [q]; exact fun z => nomatch z)
        subst e'
        rw [hK (by rw [q]; exact fun z => nomatch z)] at e
        cases e
    have e0 : Env0 P w K mg (hidT s₁.heap H) callerA [] s₁ H := ⟨rfl, ⟨hKb, ns' hns, ⟨mb, ns' hb, hbb⟩, let ⟨mc, h1, h2⟩ := hlim; ⟨mc, ns' h1, h2⟩⟩, fun b o e => of_hidT e, Nat.le_of_eq (hidT_size _ _), trivial,
      fun b z => absurd (show b ∈ ([] : List Addr) from z) (by simp), hok, .of_eq hg⟩
    refine codeAny_mono ((F _ hKb (ns' hns)).run callerA [] s₁ H ⟨[.ref a], []⟩ [.ref a] [.ref a] _ _ (.caller hr) e0 (hbind s₁ (.ref a)) (.cons rfl .nil) (hsp H hO hS)) fun r s' h => ?_
    cases r with
    | error e => exact (hCX H e s' h).elim
    | ok fl =>
      cases fl with
      | ret u =>
        obtain ⟨v, H', os, bare, un, hok', r', q⟩ := h
        have q' : v = .bl true := q
        subst q'
        obtain rfl : u = Value.bool true := r'
        refine ⟨rfl, OldK.of_keep fun b o e => ?_, os, bare⟩
        cases q : H b with
        | none => exact un.keep b o e q (fun z => absurd (show b ∈ ([] : List Addr) from z) (by simp)) (by simp)
        | some u =>
          rcases hO b with z | ⟨ob, xs, z⟩
          · rw [q] at z
            cases z
          · obtain ⟨e1, _⟩ := hok b _ z
            obtain ⟨e2, _⟩ := hok' b _ (un.frzs b ob _ z)
            rw [e] at e1
            cases e1
            exact e2
      | _ => exact False.elim h
  cases hk : K.lookup a with
  | some o =>
    have e := KX a o hk
    rw [ha] at e
    cases e
    refine core (fun _ => none) (fun _ => .inl rfl) (.inr ⟨_, vs.toArray, _, hk, rfl, rfl, rfl, ?_, by simpa using rv⟩) (fun b u z => nomatch (show (none : Option HO) = some u from z)) (fun b z => absurd rfl z) fun z => absurd rfl z
    rw [List.size_toArray, hi.length]
    first | exact hl | omega
  | none =>
    have hat : ∀ b, (if b = a then some (HO.frz { cls := .type "list", data := .seq vs.toArray } (.lst (ns.map V.int))) else none) ≠ none → b = a := fun b z => by
      by_cases hb : b = a
      · exact hb
      · exact absurd (if_neg hb) z
    refine core (fun b => if b = a then some (.frz { cls := .type "list", data := .seq vs.toArray } (.lst (ns.map V.int))) else none) (fun b => ?_) (.inl (.inr ⟨_, if_pos rfl⟩)) (fun b u z => ?_) hat fun _ => hk
    · by_cases hb : b = a
      · exact .inr ⟨_, _, if_pos hb⟩
      · exact .inl (if_neg hb)
    · have hb := hat b (by
        intro q
        have z2 := z
        dsimp only at z2
        rw [q] at z2
        cases z2)
      subst hb
      have z' := (if_pos rfl).symm.trans z
      cases z'
      exact ⟨ha, by rw [List.length_map]; exact hl, vs, _, rv, ha⟩
/-- a law: F gives the written part, the function object, the promise over every base -/
theorem walkG {l : PySem.W.OpenLaw} {n k : Nat} {q : Program} {loose : List Str} {XP : (Str → Option Value) → Heap → Prop} {YP : World → Heap → Prop} {d : DefRec} {CX : CXT} {x : Str}
    (hn : l.most = some n) (hn2 : n ≤ sizeLine) (hdf : d.params.defaults = []) (hr : Room k callerA)
    (F : ∀ (w : World) (mg : Str → Option Value) (fa : Addr) (h : Heap), YP w h → h.Ns mainGlobals mg → mg d.name = some (.ref fa) →
      ∃ (K : PySem.W.Frag) (fd : FuncData) (sp : Sp), K.In h ∧ (∀ (s : Shared) (u : Value), BindsTo s fd ⟨[u], []⟩ [(x, u)]) ∧
        (∀ (H : Hp) (a : Addr) (ns : List Int), ns.length ≤ n → Only H → SqL K H a (ns.map V.int) → sp [.ref a] H (fun v _ => v = .bl true) fun _ _ _ => False) ∧
        ∀ base : Heap, K.In base → base.Ns mainGlobals mg → FnG l.prog w K mg base CX k fa fd [x] sp)
    (hCX : ∀ (H : Hp) (s : Shared) (e : Value) (s' : Shared), CX [] H s (fun _ _ _ => False) e s' → False) :
    PySem.W.WalkO q loose XP YP l.row.toRowW d [] (fun f vs => PySem.call f vs) := by
  refine Att.attach_call hn hdf fun w s₀ s₁ mg mb fa o pm cd doc a vs ns G Y ho hd hcd hmg hobj hints hlen hg => ?_
  obtain ⟨K, fd, sp, KX, hb, hsp, hF⟩ := F w mg fa _ Y G.T.g hmg
  exact law_callG KX G.T.g G.T.b G.T.builtins G.T.nolimit hg hobj hints (Nat.le_trans hlen hn2) hr hF hb (fun H hO hS => hsp H a ns hlen hO hS) fun H e s' => hCX H s₁ e s'
end GX

set_option Elab.async false
set_option linter.all false
set_option maxRecDepth 100000
set_option maxHeartbeats 4000000
/-! G1: data of any depth (dicts too) as it lies in the tracked heap, now or for good; its repr; the freezing of lists and dicts. -/
namespace GX
open PySem PySem.Spec PyProof.Rows L2

/-! ### data -/
def kD : Key → PyData
  | .inl i => .int i
  | .inr x => .str x
/-- L a u: at a one reads u -/
abbrev Rdr := Addr → HO → Prop
mutual
inductive D (L : Rdr) : V → PyData → Prop
  | non : D L .non .none
  | bl (b : Bool) : D L (.bl b) (.bool b)
  | int (i : Int) : D L (.int i) (.int i)
  | str (x : Str) : D L (.str x) (.str x)
  | lst {a : Addr} {xs : List V} {ds : List PyData} : L a (.lst xs) → DA L xs ds → D L (.ref a) (.list ds)
  | tup {a : Addr} {xs : List V} {ds : List PyData} : L a (.tup xs) → DA L xs ds → D L (.ref a) (.tuple ds)
  | dic {a : Addr} {kvs : List (Key × V)} {ds : List (PyData × PyData)} : L a (.dK kvs) → DK L kvs ds → D L (.ref a) (.dict ds)
inductive DA (L : Rdr) : List V → List PyData → Prop
  | nil : DA L [] []
  | cons {v : V} {vs : List V} {d : PyData} {ds : List PyData} : D L v d → DA L vs ds → DA L (v :: vs) (d :: ds)
inductive DK (L : Rdr) : List (Key × V) → List (PyData × PyData) → Prop
  | nil : DK L [] []
  | cons {k : Key} {v : V} {kvs : List (Key × V)} {d : PyData} {ds : List (PyData × PyData)} : D L v d → DK L kvs ds → DK L ((k, v) :: kvs) ((kD k, d) :: ds)
end
mutual
theorem D.mono {L L' : Rdr} (h : ∀ a u, L a u → L' a u) : ∀ {v : V} {d : PyData}, D L v d → D L' v d
  | _, _, .non => .non
  | _, _, .bl b => .bl b
  | _, _, .int i => .int i
  | _, _, .str x => .str x
  | _, _, .lst l r => .lst (h _ _ l) (DA.mono h r)
  | _, _, .tup l r => .tup (h _ _ l) (DA.mono h r)
  | _, _, .dic l r => .dic (h _ _ l) (DK.mono h r)
theorem DA.mono {L L' : Rdr} (h : ∀ a u, L a u → L' a u) : ∀ {v : List V} {d : List PyData}, DA L v d → DA L' v d
  | _, _, .nil => .nil
  | _, _, .cons a b => .cons (D.mono h a) (DA.mono h b)
theorem DK.mono {L L' : Rdr} (h : ∀ a u, L a u → L' a u) : ∀ {v : List (Key × V)} {d : List (PyData × PyData)}, DK L v d → DK L' v d
  | _, _, .nil => .nil
  | _, _, .cons a b => .cons (D.mono h a) (DK.mono h b)
end
theorem DA.len {L : Rdr} : ∀ {v : List V} {d : List PyData}, DA L v d → v.length = d.length
  | _, _, .nil => rfl
  | _, _, .cons _ b => congrArg Nat.succ b.len
theorem DA.app {L : Rdr} : ∀ {v v' : List V} {d d' : List PyData}, DA L v d → DA L v' d' → DA L (v ++ v') (d ++ d')
  | _, _, _, _, .nil, h => h
  | _, _, _, _, .cons a b, h => .cons a (b.app h)
theorem DA.get {L : Rdr} : ∀ {vs : List V} {ds : List PyData} {i : Nat} {v : V}, DA L vs ds → vs[i]? = some v → ∃ d, ds[i]? = some d ∧ D L v d
  | _, _, i, _, .nil, e => by simp at e
  | _, _, 0, v, .cons a _, e => ⟨_, rfl, by
    have e' := Option.some.inj (show some _ = some v from e)
    rw [← e']
    exact a⟩
  | _, _, i + 1, v, .cons _ b, e => by
    obtain ⟨d, h1, h2⟩ := DA.get (i := i) b (by simpa using e)
    exact ⟨d, by simpa using h1, h2⟩
theorem DA.getD {L : Rdr} : ∀ {vs : List V} {ds : List PyData} {i : Nat} {d : PyData}, DA L vs ds → ds[i]? = some d → ∃ v, vs[i]? = some v ∧ D L v d
  | _, _, i, _, .nil, e => by simp at e
  | _, _, 0, d, .cons a _, e => ⟨_, rfl, by
    have e' := Option.some.inj (show some _ = some d from e)
    rw [← e']
    exact a⟩
  | _, _, i + 1, v, .cons _ b, e => by
    obtain ⟨d, h1, h2⟩ := DA.getD (i := i) b (by simpa using e)
    exact ⟨d, by simpa using h1, h2⟩

/-- as it lies now -/
def Now (K : PySem.W.Frag) (H : Hp) : Rdr := fun a u => match u with
  | .lst xs => SqL K H a xs
  | .tup xs => SqT K H a xs
  | .dK kvs => Rd H a (.dK kvs)
  | _ => False
/-- for good: tuples, and what is frozen -/
def Per (H : Hp) : Rdr := fun a u => (∃ xs, u = .tup xs ∧ H a = some (.tup xs)) ∨ ∃ o, H a = some (.frz o u)
theorem D.now {K : PySem.W.Frag} {H : Hp} {v : V} {d : PyData} (h : D (Per H) v d) : D (Now K H) v d := by
  -- only lists, tuples, dicts are looked at
  have key : ∀ a u, Per H a u → (match u with | .lst _ => True | .tup _ => True | .dK _ => True | _ => False) → Now K H a u := by
    intro a u h k
    rcases h with ⟨xs, rfl, e⟩ | ⟨o, e⟩
    · exact .inl (.inl e)
    · cases u <;> first | exact k.elim | exact .inl (.inr ⟨o, e⟩) | exact .inr ⟨o, e⟩
  have go : ∀ {L' : Rdr}, (∀ a u, Per H a u → (match u with | .lst _ => True | .tup _ => True | .dK _ => True | _ => False) → L' a u) → ∀ {v : V} {d : PyData}, D (Per H) v d → D L' v d := by
    intro L' hL v d h
    refine D.rec (motive_1 := fun v d _ => D L' v d) (motive_2 := fun vs ds _ => DA L' vs ds) (motive_3 := fun vs ds _ => DK L' vs ds) .non (fun b => .bl b) (fun i => .int i) (fun x => .str x) ?_ ?_ ?_ .nil ?_ .nil ?_ h
    · exact fun l _ r => .lst (hL _ _ l trivial) r
    · exact fun l _ r => .tup (hL _ _ l trivial) r
    · exact fun l _ r => .dic (hL _ _ l trivial) r
    · exact fun _ _ a b => .cons a b
    · exact fun _ _ a b => .cons a b
  exact go key h

/-! ### what never changes -/
def Imm : HO → Bool
  | .lst _ | .dK _ | .dT _ | .set _ _ | .tbl _ => false
  | _ => true
/-- what never changes is as it was -/
def Mo (H H' : Hp) : Prop := ∀ a o, Imm o = true → H a = some o → H' a = some o
/-- all but p is as it was -/
def Bt (p : Addr) (H H' : Hp) : Prop := ∀ a o, a ≠ p → H a = some o → H' a = some o
theorem Mo.refl (H : Hp) : Mo H H := fun _ _ _ h => h
theorem Mo.trans {H H1 H2 : Hp} (a : Mo H H1) (b : Mo H1 H2) : Mo H H2 := fun c o i h => b c o i (a c o i h)
theorem Same.mo {H H' : Hp} (s : Same H H') : Mo H H' := fun a o _ h => s a o h
theorem Bt.refl (p : Addr) (H : Hp) : Bt p H H := fun _ _ _ h => h
theorem Bt.trans {p : Addr} {H H1 H2 : Hp} (a : Bt p H H1) (b : Bt p H1 H2) : Bt p H H2 := fun c o i h => b c o i (a c o i h)
theorem Same.bt {p : Addr} {H H' : Hp} (s : Same H H') : Bt p H H' := fun a o _ h => s a o h
theorem Bt.mo {p : Addr} {H H' : Hp} {o : HO} (s : Bt p H H') (h : H p = some o) (i : Imm o = false) : Mo H H' := fun a u k e => by
  refine s a u (fun z => ?_) e
  subst z
  rw [h] at e
  cases e
  rw [i] at k
  cases k
theorem Bt.upd {p : Addr} {H H' : Hp} {o : HO} (s : Bt p H H') : Bt p H (upd H' p o) := fun a u n e => by
  rw [upd_ne n]
  exact s a u n e
theorem Same.new {H : Hp} {p : Addr} {o : HO} (h : H p = none) : Same H (upd H p o) := fun a u e => by
  rw [upd_ne (ne_of_none e h)]
  exact e
theorem Bt.free {p q : Addr} {H H' : Hp} (s : Bt p H H') (hq : H' q = none) (n : q ≠ p) : H q = none := by
  cases e : H q with
  | none => rfl
  | some u =>
    rw [s q u n e] at hq
    cases hq
theorem Per.mo {H H' : Hp} (m : Mo H H') : ∀ a u, Per H a u → Per H' a u := by
  intro a u h
  rcases h with ⟨xs, rfl, e⟩ | ⟨o, e⟩
  · exact .inl ⟨xs, rfl, m _ _ rfl e⟩
  · exact .inr ⟨o, m _ _ rfl e⟩
theorem D.mo {H H' : Hp} {v : V} {d : PyData} (h : D (Per H) v d) (m : Mo H H') : D (Per H') v d := D.mono (Per.mo m) h
theorem DA.mo {H H' : Hp} {v : List V} {d : List PyData} (h : DA (Per H) v d) (m : Mo H H') : DA (Per H') v d := DA.mono (Per.mo m) h

/-! ### freezing -/
def Fz : HO → Bool
  | .lst _ | .dK _ => true
  | _ => false
section
variable {X : Cx} {pins : List (Addr × Obj)} {σ : L2.St} {H : Hp} {s : Shared} {a : Addr} {u : HO}
theorem Inv.freeze (I : Inv X pins σ H s) (e : H a = some u) (f : Fz u = true) : ∃ o, Inv X pins σ (upd H a (.frz o u)) s := by
  obtain ⟨o, ho⟩ : ∃ o, s.heap.get? a = some o := by
    have z := I.hok a u e
    cases u with
    | lst xs => obtain ⟨_, _, _, _, q⟩ := z; exact ⟨_, q⟩
    | dK kvs => obtain ⟨_, _, _, _, o, _, _, q, _⟩ := z; exact ⟨o, q⟩
    | _ => cases f
  have ne : ∀ b w, H b = some w → w ≠ u → b ≠ a := fun b w hb n z => by
    subst z
    rw [e] at hb
    exact n (Option.some.inj hb).symm
  have nn : ∀ b, H b = none → b ≠ a := fun b hb z => by
    subst z
    rw [e] at hb
    cases hb
  have u1 : ∀ x, u ≠ .own x := fun x z => by rw [z] at f; cases f
  have u2 : ∀ x, u ≠ .tup x := fun x z => by rw [z] at f; cases f
  have u3 : ∀ x y, u ≠ .frz x y := fun x y z => by rw [z] at f; cases f
  have u4 : ∀ x, u ≠ .tbl x := fun x z => by rw [z] at f; cases f
  have un : Un X.fs [] H (upd H a (.frz o u)) s.heap s.heap := {
    keep := fun b ob q _ _ _ => q
    slot := fun b ob q _ _ _ => ⟨ob.slots, q⟩
    free := fun b ob _ n _ => by rw [upd_ne (nn b n)]; exact n
    there := fun b ob q _ => ⟨ob, q⟩
    tups := fun b xs q => by rw [upd_ne (ne b _ q (fun z => u2 _ z.symm))]; exact q
    frzs := fun b ob v q => by rw [upd_ne (ne b _ q (fun z => u3 _ _ z.symm))]; exact q
    tbls := fun b ps q => ⟨#[], by rw [upd_ne (ne b _ q (fun z => u4 _ z.symm)), q]; simp⟩ }
  have ok : HOk X.prog X.w (upd H a (.frz o u)) s.heap := fun b ob q => by
    have st : ∀ {c : Addr} {w : HO}, ObjOk X.prog X.w H s.heap c w → ObjOk X.prog X.w (upd H a (.frz o u)) s.heap c w := fun {c w} z =>
      z.stay (fun _ _ _ q => q) (fun d q => by rw [upd_ne (ne d _ q (fun z => u1 _ z.symm))]; exact q) (fun d xs q => by rw [upd_ne (ne d _ q (fun z => u2 _ z.symm))]; exact q)
    by_cases hb : b = a
    · subst hb
      rw [upd_same] at q
      cases q
      exact ⟨ho, st (I.hok b u e)⟩
    · rw [upd_ne hb] at q
      exact st (I.hok b ob q)
  have J := I.un (t' := s.toks) un ok
  obtain ⟨hp, g, d, t, os⟩ := s
  exact ⟨o, J⟩
end
/-- the new list, or dict, is frozen -/
def tFz (t : TE) : TE := fun σ H Q => t σ H fun v H1 => ∃ a u, v = .ref a ∧ H1 a = some u ∧ Fz u = true ∧ ∀ o, Q v (upd H1 a (.frz o u))
theorem pe_fz {X : Cx} {e : Expr} {t : TE} (h : PE X e t) : PE X e (tFz t) := by
  refine ⟨fun pins s σ H Q I q => thn (h.run pins s σ H _ I q) fun w s1 ⟨v, H1, I1, r1, a, u, ev, ea, f, q1⟩ => ?_⟩
  obtain ⟨o, J⟩ := Inv.freeze I1 ea f
  exact ⟨v, _, J, r1, q1 o⟩
theorem Mo.fz {H : Hp} {a : Addr} {o : Obj} {u : HO} (e : H a = some u) (f : Fz u = true) : Mo H (upd H a (.frz o u)) := fun b w i q => by
  have n : b ≠ a := fun z => by
    subst z
    rw [e] at q
    cases q
    cases u <;> first | exact absurd (show false = true from f) (by decide) | exact absurd (show false = true from i) (by decide)
  rw [upd_ne n]
  exact q

/-! ### sizes -/
def ascT (x : Str) : Bool := x.cps.toList.all fun c => decide (c < 128)
mutual
def wt : PyData → Nat
  | .none => 4
  | .bool _ => 5
  | .int i => i.natAbs.log2 + 4
  | .str x => x.length + 2
  | .list xs => wtA xs + 2
  | .tuple xs => wtA xs + 3
  | .dict kvs => wtK kvs + 2
def wtA : List PyData → Nat
  | [] => 0
  | x :: xs => wt x + 2 + wtA xs
def wtK : List (PyData × PyData) → Nat
  | [] => 0
  | (k, v) :: r => wt k + wt v + 4 + wtK r
end
mutual
def asc : PyData → Bool
  | .none | .bool _ | .int _ => true
  | .str x => ascT x
  | .list xs | .tuple xs => ascA xs
  | .dict kvs => ascK kvs
def ascA : List PyData → Bool
  | [] => true
  | x :: xs => asc x && ascA xs
def ascK : List (PyData × PyData) → Bool
  | [] => true
  | (k, v) :: r => asc k && asc v && ascK r
end
/-- small data: n its weight, m its depth -/
structure Gd (n m : Nat) (d : PyData) : Prop where
  w : wt d ≤ n
  dp : d.depth ≤ m
  as : asc d = true
theorem Gd.mono {n m n' m' : Nat} {d : PyData} (g : Gd n m d) (h1 : n ≤ n') (h2 : m ≤ m') : Gd n' m' d := ⟨Nat.le_trans g.w h1, Nat.le_trans g.dp h2, g.as⟩
theorem slen_app (a b : Str) : (a ++ b).length = a.length + b.length := strLen_append a b
theorem join_len2 : ∀ ts : List Str, (Str.join ", " ts).length ≤ (ts.map (·.length)).sum + 2 * ts.length
  | [] => by show (0 : Nat) ≤ _; exact Nat.zero_le _
  | [x] => by show x.length ≤ _; simp
  | x :: y :: r => by
    have ih := join_len2 (y :: r)
    show (x ++ ", " ++ Str.join ", " (y :: r)).length ≤ _
    rw [slen_app, slen_app]
    have e : (", " : Str).length = 2 := rfl
    rw [e]
    simp only [List.map_cons, List.sum_cons, List.length_cons] at ih ⊢
    omega
theorem textFrom_len2 : ∀ (ts : List Str) (k : Nat) (acc : Str), (textFrom k acc ts).length ≤ acc.length + (ts.map (·.length)).sum + 2 * ts.length
  | [], k, acc => by show acc.length ≤ _; simp
  | t :: r, k, acc => by
    have ih := textFrom_len2 r (k + 1) (acc ++ (if k > 0 then ", " else "" : String) ++ t)
    show (textFrom (k + 1) (acc ++ (if k > 0 then ", " else "" : String) ++ t) r).length ≤ _
    have e : (Str.ofString (if k > 0 then ", " else "")).length ≤ 2 := by
      split <;> decide
    rw [slen_app, slen_app] at ih
    simp only [List.map_cons, List.sum_cons, List.length_cons]
    omega
mutual
theorem shown_le : ∀ d : PyData, asc d = true → wt d ≤ 1900 → d.shown.length ≤ 10 * wt d
  | .none, _, _ => by decide
  | .bool b, _, _ => by cases b <;> decide
  | .int i, _, h => by
    simp only [PyData.shown, wt]
    have := int_text_length_le (a := i) (k := i.natAbs.log2 + 1) (by omega) (by omega)
    show (Str.ofString (toString i)).length ≤ _
    rw [PySem.ofString_length]
    omega
  | .str x, h, _ => by
    simp only [PyData.shown, wt]
    have hx : ∀ c ∈ x.cps.toList, c < 16 ^ 8 := fun c hc => by
      have := List.all_eq_true.mp (show ascT x = true by simpa only [asc] using h) c hc
      have := of_decide_eq_true this
      omega
    have := StrLaws.reprText_len x hx
    omega
  | .list xs, h, g => by
    simp only [asc] at h
    simp only [wt] at g
    have ih := shown_leA xs h (by omega)
    simp only [PyData.shown, wt]
    unfold listText
    rw [slen_app]
    have h1 := textFrom_len2 (PyData.shownAll xs) 0 "["
    have e : ("[" : Str).length = 1 := rfl
    have e2 : ("]" : Str).length = 1 := rfl
    rw [e] at h1
    rw [e2]
    omega
  | .tuple xs, h, g => by
    simp only [asc] at h
    simp only [wt] at g
    have ih := shown_leA xs h (by omega)
    simp only [PyData.shown, wt]
    unfold tupleText
    rw [slen_app, slen_app]
    have h1 := join_len2 (PyData.shownAll xs)
    have e : ("(" : Str).length = 1 := rfl
    have e2 : (Str.ofString (if (PyData.shownAll xs).length == 1 then ",)" else ")")).length ≤ 2 := by
      split <;> decide
    rw [e]
    omega
  | .dict kvs, h, g => by
    simp only [asc] at h
    simp only [wt] at g
    have ih := shown_leK kvs h (by omega)
    simp only [PyData.shown, wt]
    unfold dictText
    rw [slen_app, slen_app]
    have h1 := join_len2 (PyData.shownKv kvs)
    have e : ("{" : Str).length = 1 := rfl
    have e2 : ("}" : Str).length = 1 := rfl
    rw [e, e2]
    omega
theorem shown_leA : ∀ xs : List PyData, ascA xs = true → wtA xs ≤ 1900 → ((PyData.shownAll xs).map (·.length)).sum + 2 * (PyData.shownAll xs).length ≤ 10 * wtA xs
  | [], _, _ => by simp [PyData.shownAll, wtA]
  | x :: xs, h, g => by
    simp only [ascA, Bool.and_eq_true] at h
    simp only [wtA] at g
    have h1 := shown_le x h.1 (by omega)
    have h2 := shown_leA xs h.2 (by omega)
    simp only [PyData.shownAll, wtA, List.map_cons, List.sum_cons, List.length_cons]
    omega
theorem shown_leK : ∀ xs : List (PyData × PyData), ascK xs = true → wtK xs ≤ 1900 → ((PyData.shownKv xs).map (·.length)).sum + 2 * (PyData.shownKv xs).length ≤ 10 * wtK xs
  | [], _, _ => by simp [PyData.shownKv, wtK]
  | (k, v) :: xs, h, g => by
    simp only [ascK, Bool.and_eq_true] at h
    simp only [wtK] at g
    have h1 := shown_le k h.1.1 (by omega)
    have h1' := shown_le v h.1.2 (by omega)
    have h2 := shown_leK xs h.2 (by omega)
    simp only [PyData.shownKv, wtK, List.map_cons, List.sum_cons, List.length_cons]
    rw [slen_app, slen_app]
    have e : (": " : Str).length = 2 := rfl
    rw [e]
    omega
end
mutual
theorem showable_of : ∀ d : PyData, wt d ≤ 1900 → d.showable = true
  | .none, _ => by simp only [PyData.showable]
  | .bool _, _ => by simp only [PyData.showable]
  | .str _, _ => by simp only [PyData.showable]
  | .int i, h => by
    simp only [wt] at h
    simp only [PyData.showable]
    exact decide_eq_true (by omega)
  | .list xs, h => by
    simp only [wt] at h
    simp only [PyData.showable]
    exact showable_ofA xs (by omega)
  | .tuple xs, h => by
    simp only [wt] at h
    simp only [PyData.showable]
    exact showable_ofA xs (by omega)
  | .dict xs, h => by
    simp only [wt] at h
    simp only [PyData.showable]
    exact showable_ofK xs (by omega)
theorem showable_ofA : ∀ d : List PyData, wtA d ≤ 1900 → PyData.showableAll d = true
  | [], _ => by simp only [PyData.showableAll]
  | x :: xs, h => by
    simp only [wtA] at h
    simp only [PyData.showableAll, showable_of x (by omega), showable_ofA xs (by omega), Bool.and_self]
theorem showable_ofK : ∀ d : List (PyData × PyData), wtK d ≤ 1900 → PyData.showableKv d = true
  | [], _ => by simp only [PyData.showableKv]
  | (k, v) :: xs, h => by
    simp only [wtK] at h
    simp only [PyData.showableKv, showable_of k (by omega), showable_of v (by omega), showable_ofK xs (by omega), Bool.and_self]
end

/-! ### what the model reads -/
/-- sys.modules stands in the written part, a dict -/
def KSys (K : PySem.W.Frag) : Prop := ∃ o es n, K.lookup sysModules = some o ∧ o.data = .dict es n
section
variable {X : Cx} {pins : List (Addr × Obj)} {σ : L2.St} {H : Hp} {s : Shared}
mutual
theorem D.reads (KS : KSys X.K) (I : Inv X pins σ H s) : ∀ (d : PyData) (v : V) (u : Value), D (Now X.K H) v d → L2.RelV v u → ∃ as, Reads s.heap u d as ∧ sysModules ∉ as
  | .none, _, _, h, r => by
    cases h
    cases r
    exact ⟨_, Reads.none, fun z => nomatch z⟩
  | .bool b, _, _, h, r => by
    cases h
    cases r
    exact ⟨_, Reads.bool b, fun z => nomatch z⟩
  | .int i, _, _, h, r => by
    cases h
    obtain ⟨t, rfl⟩ := r
    exact ⟨_, Reads.int i t, fun z => nomatch z⟩
  | .str x, _, _, h, r => by
    cases h
    obtain ⟨t, rfl⟩ := r
    exact ⟨_, Reads.str x t, fun z => nomatch z⟩
  | .list ds, _, _, h, r => by
    cases h with
    | lst hs ha =>
      rename_i a xs
      cases r
      obtain ⟨its, rv, ⟨o, n, ho, hc, _, hd⟩, _⟩ := I.list (show SqL X.K H a xs from hs)
      obtain ⟨as, hr, hn⟩ := DA.reads KS I ds _ its ha rv
      refine ⟨_, Reads.list ho hc hd hr, fun z => ?_⟩
      rcases List.mem_cons.mp z with z | z
      · obtain ⟨o', es, m, e1, e2⟩ := KS
        have e3 := I.kIn _ _ e1
        rw [z, ho] at e3
        cases e3
        rw [hd] at e2
        cases e2
      · exact hn z
  | .tuple ds, _, _, h, r => by
    cases h with
    | tup hs ha =>
      rename_i a xs
      cases r
      obtain ⟨its, rv, ⟨o, ho, hc, n, hd⟩, _⟩ := I.tuple (show SqT X.K H a xs from hs)
      obtain ⟨as, hr, hn⟩ := DA.reads KS I ds _ its ha rv
      exact ⟨_, Reads.tuple ho hc hd hr, hn⟩
  | .dict ds, _, _, h, r => by
    cases h with
    | dic hs ha =>
      rename_i a kvs
      cases r
      obtain ⟨hz, hsys, vs, rel, hd⟩ := dk_rd I.hok (show Rd H a (.dK kvs) from hs)
      obtain ⟨as, hp, hn⟩ := DK.reads KS I ds _ vs ha rel
      refine ⟨_, PyProof.V.reads_dictOf (enc := kD) (fun k key e => ?_) hd hp, fun z => ?_⟩
      · rcases keyIs_shape (show keyIs k key = true from e) with ⟨i, t, rfl, rfl⟩ | ⟨x, t, rfl, rfl⟩
        · exact Reads.int i t
        · exact Reads.str x t
      · rcases List.mem_cons.mp z with z | z
        · rw [← z] at hsys
          exact absurd hsys (by decide)
        · exact hn z
theorem DA.reads (KS : KSys X.K) (I : Inv X pins σ H s) : ∀ (ds : List PyData) (vs : List V) (us : List Value), DA (Now X.K H) vs ds → Vals vs us → ∃ as, ReadsAll s.heap us ds as ∧ sysModules ∉ as
  | [], _, _, h, r => by
    cases h
    cases r
    exact ⟨_, ReadsAll.nil, fun z => nomatch z⟩
  | d :: ds, _, _, h, r => by
    cases h with
    | cons h1 h2 =>
      cases r with
      | cons r1 r2 =>
        obtain ⟨as, q1, n1⟩ := D.reads KS I d _ _ h1 r1
        obtain ⟨bs, q2, n2⟩ := DA.reads KS I ds _ _ h2 r2
        exact ⟨_, ReadsAll.cons q1 q2, fun z => (List.mem_append.mp z).elim n1 n2⟩
theorem DK.reads (KS : KSys X.K) (I : Inv X pins σ H s) : ∀ (ds : List (PyData × PyData)) (kvs : List (Key × V)) (us : List (Key × Value)), DK (Now X.K H) kvs ds → KV kvs us → ∃ as, PyProof.V.PairsRead s.heap kD us ds as ∧ sysModules ∉ as
  | [], _, _, h, r => by
    cases h
    cases r
    exact ⟨_, PyProof.V.PairsRead.nil, fun z => nomatch z⟩
  | (k, d) :: ds, _, _, h, r => by
    cases h with
    | cons h1 h2 =>
      cases r with
      | @cons _ p _ ps r1 r2 =>
        obtain ⟨k', u⟩ := p
        obtain ⟨e1, e2⟩ := r1
        dsimp only at e1 e2
        subst e1
        obtain ⟨as, q1, n1⟩ := D.reads KS I d _ _ h1 e2
        obtain ⟨bs, q2, n2⟩ := DK.reads KS I ds _ _ h2 r2
        exact ⟨_, PyProof.V.PairsRead.cons q1 q2, fun z => (List.mem_append.mp z).elim n1 n2⟩
end
end

/-! ### repr -/
def rRepr (K : PySem.W.Frag) : List V → Hp → VK → Prop := fun xs H Q => ∃ v d, xs = [v] ∧ D (Now K H) v d ∧ Gd 1900 60 d ∧ Q (.str d.shown) H
section
variable {X : Cx}
theorem call_repr (KS : KSys X.K) (hg : X.A.guards = some []) (hu : X.A.units + 200 < cLine) : CallR X (.builtin "repr") (rRepr X.K) := by
  intro pins s σ H xs us Q I r h
  obtain ⟨v, d, rfl, hd, g, q⟩ := h
  obtain ⟨u, rfl, ru⟩ := vals1 r
  have hsz : d.shown.length ≤ sizeLine := by
    have := shown_le d g.as g.w
    have := g.w
    rw [sizeLine_eq]
    omega
  obtain ⟨as, hr, hn⟩ := D.reads KS I d v u hd ru
  have fin : ∀ (h' : Heap) (t : Tok) (tk : Nat), (∀ b o, s.heap.get? b = some o → h'.get? b = some o) → EP X pins σ Q (.str d.shown t) { s with heap := h', toks := tk } :=
    fun h' t tk k => ⟨.str d.shown, H, I.kept k, ⟨t, rfl⟩, q⟩
  cases hr with
  | none => exact PySem.P.repr_of_none (by simpa only [PyData.shown] using fin s.heap _ _ fun _ _ z => z)
  | bool b => exact PySem.P.repr_of_bool (by simpa only [PyData.shown] using fin s.heap _ _ fun _ _ z => z)
  | int i t =>
    have hw := g.w
    simp only [wt] at hw
    exact PySem.P.repr_of_int (by omega) (by simpa only [PyData.shown] using fin s.heap _ _ fun _ _ z => z)
  | str x t => exact PySem.P.repr_of_str (by simpa only [PyData.shown] using fin s.heap _ _ fun _ _ z => z) (by simpa only [PyData.shown] using hsz)
  | list h1 h2 h3 h4 => exact repr_of_reads' (Reads.list h1 h2 h3 h4) (showable_of _ g.w) (fun _ => hn) hg (by have := g.dp; omega) (fun _ _ e => e) (fun h' t tk k => fin h' t tk k) hsz
  | tuple h1 h2 h3 h4 => exact repr_of_reads' (Reads.tuple h1 h2 h3 h4) (showable_of _ g.w) (fun _ => hn) hg (by have := g.dp; omega) (fun _ _ e => e) (fun h' t tk k => fin h' t tk k) hsz
  | dict h1 h2 h3 h4 h5 => exact repr_of_reads' (Reads.dict h1 h2 h3 h4 h5) (showable_of _ g.w) (fun _ => hn) hg (by have := g.dp; omega) (fun _ _ e => e) (fun h' t tk k => fin h' t tk k) hsz
end
end GX

set_option Elab.async false
set_option linter.all false
set_option maxRecDepth 100000
set_option maxHeartbeats 4000000
/-! G2: defs as bundles, the built-in names, operators over several kinds, exceptions of own classes as values. -/
namespace GX
open PySem PySem.Spec PyProof.Rows L2

/-! ### a def that a caller may use -/
structure CalG (P : Program) (w : World) (K : PySem.W.Frag) (mg : Str → Option Value) (base : Heap) (CX : CXT) (k : Nat) (x : Str) (sp : Sp) : Prop where
  ex : ∃ (f : Addr) (fd : FuncData) (ps : List Str), FnG P w K mg base CX k f fd ps sp ∧ mg x = some (.ref f) ∧ PySem.W.keepIn K (.ref f) = true ∧ Binds K fd ps []
section
variable {X : Cx} {CX : CXT} {j k : Nat} {sp : Sp} {E : XK} {x : Str} {p pos : Pos} {e : Expr} {es : List Expr} {t : TA}
theorem pe_cG (c : CalG X.prog X.w X.K X.mg X.base CX k x sp) (hr : RmG j X.A) (hk : k ≤ j) (hx : Passes CX X E) (ha : PA X (e :: es) t) (hg : Gl X x := by rfl)
    (hdb : (x == ("__debug__" : Str)) = false := by decide) (he : starEach (e :: es) X.env = (false, eval e X.env) :: starEach es X.env := by rfl) (hpl : (backTo pos (starEach es X.env)).any (·.1) = false := by rfl) :
    PE X (.Call (.Name x p) (e :: es) [] pos) (tCall sp [] E t) := by
  obtain ⟨f, fd, ps, F, hm, kp, hb⟩ := c.ex
  exact pe_callG F (hr.mono hk) hg hm kp hb .nil hx ha hdb he hpl
theorem pe_cG0 (c : CalG X.prog X.w X.K X.mg X.base CX k x sp) (hr : RmG j X.A) (hk : k ≤ j) (hx : Passes CX X E) (hg : Gl X x := by rfl) (hdb : (x == ("__debug__" : Str)) = false := by decide) :
    PE X (.Call (.Name x p) [] [] pos) (tCall sp [] E tNil) := by
  obtain ⟨f, fd, ps, F, hm, kp, hb⟩ := c.ex
  exact pe_callG0 F (hr.mono hk) hg hm kp hb .nil hx hdb
end
theorem RmG.units {k : Nat} {A : Around} (r : RmG k A) : A.units + 200 < cLine := by have := r.rm.un; omega
theorem RmG.u64 {k : Nat} {A : Around} (r : RmG k A) : A.units + 64 < cLine := by have := r.rm.un; omega
theorem RmG.u1 {k : Nat} {A : Around} (r : RmG k A) : A.units + 1 < cLine := by have := r.rm.un; omega

/-! ### the built-in names are still free -/
structure NB (mg : Str → Option Value) : Prop where
  len : mg "len" = none
  abs : mg "abs" = none
  int : mg "int" = none
  bool : mg "bool" = none
  str : mg "str" = none
  tuple : mg "tuple" = none
  list : mg "list" = none
  dict : mg "dict" = none
  set : mg "set" = none
  repr : mg "repr" = none
  isinstance : mg "isinstance" = none
  range : mg "range" = none
  enumerate : mg "enumerate" = none
  zip : mg "zip" = none
  sorted : mg "sorted" = none
  sum : mg "sum" = none
  max : mg "max" = none
  min : mg "min" = none
  all : mg "all" = none
  any : mg "any" = none
  VE : mg "ValueError" = none
theorem bt_len : bootBuiltins "len" = some (.builtin "len") := by decide +kernel
theorem bt_abs : bootBuiltins "abs" = some (.builtin "abs") := by decide +kernel
theorem bt_repr : bootBuiltins "repr" = some (.builtin "repr") := by decide +kernel
theorem bt_isinstance : bootBuiltins "isinstance" = some (.builtin "isinstance") := by decide +kernel
theorem bt_sorted : bootBuiltins "sorted" = some (.builtin "sorted") := by decide +kernel
theorem bt_sum : bootBuiltins "sum" = some (.builtin "sum") := by decide +kernel
theorem bt_max : bootBuiltins "max" = some (.builtin "max") := by decide +kernel
theorem bt_min : bootBuiltins "min" = some (.builtin "min") := by decide +kernel
theorem bt_all : bootBuiltins "all" = some (.builtin "all") := by decide +kernel
theorem bt_any : bootBuiltins "any" = some (.builtin "any") := by decide +kernel
theorem bt_int : bootBuiltins "int" = some (.type "int") := by decide +kernel
theorem bt_bool : bootBuiltins "bool" = some (.type "bool") := by decide +kernel
theorem bt_str : bootBuiltins "str" = some (.type "str") := by decide +kernel
theorem bt_tuple : bootBuiltins "tuple" = some (.type "tuple") := by decide +kernel
theorem bt_list : bootBuiltins "list" = some (.type "list") := by decide +kernel
theorem bt_dict : bootBuiltins "dict" = some (.type "dict") := by decide +kernel
theorem bt_set : bootBuiltins "set" = some (.type "set") := by decide +kernel
theorem bt_range : bootBuiltins "range" = some (.type "range") := by decide +kernel
theorem bt_enumerate : bootBuiltins "enumerate" = some (.type "enumerate") := by decide +kernel
theorem bt_zip : bootBuiltins "zip" = some (.type "zip") := by decide +kernel
theorem bt_VE : bootBuiltins "ValueError" = some (.type "ValueError") := by decide +kernel
/-- a built-in type as a value -/
theorem pe_ty {X : Cx} {x : Str} {n : String} {pos : Pos} (hm : X.mg x = none) (hv : bootBuiltins x = some (.type n)) (hg : Gl X x := by rfl) (hn : x ≠ "__name__" := by decide) (hd : (x == ("__debug__" : Str)) = false := by decide) : PE X (.Name x pos) (tC (.ty n)) :=
  pe_bltn hg hm hv rfl hn hd
/-- an own class as a value -/
theorem pe_own {X : Cx} {x : Str} {C : Addr} {pos : Pos} (hm : X.mg x = some (.ref C)) (hg : Gl X x := by rfl) (hd : (x == ("__debug__" : Str)) = false := by decide) : PE X (.Name x pos) (tC (.ref C)) :=
  pe_glob hg hm rfl hd

/-! ### ways joined -/
def tCutE (t : TE) : TE := fun σ H Q => ∃ Mid : V → Hp → Prop, t σ H Mid ∧ ∀ v H', Mid v H' → Q v H'
def tCutT (t : TT) : TT := fun σ H Q => ∃ Mid : Bool → Hp → Prop, t σ H Mid ∧ ∀ v H', Mid v H' → Q v H'
def tCutS (t u : TS) : TS := fun D σ H => ∃ Mid : L2.St → Hp → Prop, t { D with nx := Mid } σ H ∧ ∀ σ' H', Mid σ' H' → u D σ' H'
section
variable {X : Cx}
theorem pe_cut {e : Expr} {t : TE} (h : PE X e t) : PE X e (tCutE t) :=
  ⟨fun pins s σ H _ I ⟨Mid, q1, q2⟩ => thn (h.run pins s σ H Mid I q1) fun _ _ ⟨v, H1, I1, r, m⟩ => ⟨v, H1, I1, r, q2 v H1 m⟩⟩
theorem pt_cut {e : Expr} {t : TT} (h : PT X e t) : PT X e (tCutT t) :=
  ⟨fun pins s σ H _ I ⟨Mid, q1, q2⟩ => thn (h.run pins s σ H Mid I q1) fun v _ ⟨H1, I1, m⟩ => ⟨H1, I1, q2 v H1 m⟩⟩
theorem pss_ct {st : Stmt} {rest : List Stmt} {t u : TS} (h1 : PS X st t) (h2 : PSs X rest u) : PSs X (st :: rest) (tCutS t u) := by
  refine ⟨fun pins s σ H D I ⟨Mid, q1, q2⟩ => wpAny_execs_cons (thn (h1.run pins s σ H { D with nx := Mid } I q1) fun f s1 q => ?_)⟩
  cases f with
  | next =>
    obtain ⟨σ', H', I', q⟩ := q
    exact h2.run pins s1 σ' H' D I' (q2 σ' H' q)
  | ret v => exact q
  | brk => exact q
  | cont => exact q
end

/-! ### operators over several kinds -/
theorem OpR.or {X : Cx} {f : Value → Value → Sem Value} {r r' : R2} (h : OpR X f r) (h' : OpR X f r') : OpR X f (fun x y H Q => r x y H Q ∨ r' x y H Q) := by
  intro pins s σ H x y v u Q I rx ry q
  rcases q with q | q
  · exact h pins s σ H x y v u Q I rx ry q
  · exact h' pins s σ H x y v u Q I rx ry q
def rAddI : R2 := rI0 fun i j => .int (i + j)
def rAddT : R2 := fun x y H Q => ∃ i j, x = .str i ∧ y = .str j ∧ i.length + j.length ≤ sizeLine ∧ Q (.str (i ++ j)) H
/-- + of ints, of texts, of lists, of tuples -/
def rAddA (K : PySem.W.Frag) : R2 := fun x y H Q => rAddI x y H Q ∨ rAddT x y H Q ∨ rCat x y H Q ∨ rCatA K x y H Q
def rEqS : R2 := rEq
def rEqA (K : PySem.W.Frag) : R2 := fun x y H Q => rEq x y H Q ∨ rEqD K x y H Q
def rNeA (K : PySem.W.Frag) : R2 := fun x y H Q => rNe x y H Q ∨ rNeD K x y H Q
section
variable {X : Cx}
theorem op_addA : OpR X (binaryOp .Add) (rAddA X.K) := OpR.or op_add (OpR.or op_add_str (OpR.or op_cat op_catA))
theorem op_eqA (hu : X.A.units + 64 < cLine) : OpR X (compareOp .Eq) (rEqA X.K) := OpR.or op_eq (op_eqD hu)
theorem op_neA (hu : X.A.units + 64 < cLine) : OpR X (compareOp .NotEq) (rNeA X.K) := OpR.or op_ne (op_neD hu)
/-- (10 ** 60) ** 5 -/
def rPowB : R2 := fun x y H Q => x = .int (10 ^ 60) ∧ y = .int 5 ∧ Q (.int (10 ^ 300)) H
theorem op_powB : OpR X (binaryOp .Pow) rPowB := by
  intro pins s σ H x y v u Q I rx ry q
  obtain ⟨rfl, rfl, q⟩ := q
  obtain ⟨t, rfl⟩ := rx
  obtain ⟨t', rfl⟩ := ry
  exact PySem.AutoIntOps.pow_4 (by decide) (by decide) (by decide) (by decide) (by decide +kernel) ⟨.int (10 ^ 300), H, I.tok _, ⟨_, rfl⟩, q⟩
def rPowA : R2 := fun x y H Q => rI CPow (fun i j => .int (i ^ j.toNat)) x y H Q ∨ rPowB x y H Q
theorem op_powA : OpR X (binaryOp .Pow) rPowA := OpR.or op_pow op_powB
end
end GX

set_option Elab.async false
set_option linter.all false
set_option maxRecDepth 100000
set_option maxHeartbeats 4000000
/-! G3: exceptions of own classes as values: their attributes, isinstance of them. -/
namespace GX
open PySem PySem.Spec PyProof.Rows L2

/-- at e: an exception of the class at C, its dict at d; it may have flown -/
def exv (e C d : Addr) : HO := .ext fun h => ∃ vs : Array Value, h.get? e = some ({ cls := .ref C, dict := some d, data := .fields vs } : Obj)
/-- an exception, its class, its attributes -/
def ExAt (H : Hp) (e C : Addr) (fs : List (Str × V)) : Prop := ∃ d, (H e = some (exo e C (some d)) ∨ H e = some (exv e C d)) ∧ H d = some (exd d fs)
theorem ExAt.mo {H H' : Hp} {e C : Addr} {fs : List (Str × V)} (x : ExAt H e C fs) (m : Mo H H') : ExAt H' e C fs := by
  obtain ⟨d, h1, h2⟩ := x
  exact ⟨d, h1.imp (m _ _ rfl) (m _ _ rfl), m _ _ rfl h2⟩
/-- what the written part says of the class of such exceptions -/
structure ExcF (K : PySem.W.Frag) (C fI : Addr) : Prop where
  ox : OexC K C
  iC : PySem.W.findIn K (.ref C) "__init__" = some (some (.ref fI))
  tI : PySem.W.typeIn K (.ref fI) = some (.type "function")
  noV : PySem.W.findIn K (.ref C) "value" = some none
  ga : PySem.W.findIn K (.ref C) "__getattribute__" = some (some (.builtin "BaseException.__getattribute__"))
  gt : PySem.W.findIn K (.ref C) "__getattr__" = some none
  hd : PySem.W.hasDictIn K C = true
  ca : PySem.W.findIn K (.ref C) "__class__" = some (some (.builtin "object.__class__"))
  cn : PySem.W.specialIn K (.builtin "object.__class__") "__get__" = some (some (.builtin "getset_descriptor.__get__"))
  ct : PySem.W.takesIn K (.builtin "object.__class__") = some true
  cm : PySem.W.mroIn K C (.type "object") = some true
/-- the check of it -/
def oexB (K : PySem.W.Frag) (C : Addr) : Bool := match K.lookup C with
  | some ⟨.type "type", _, .cls cd, sl⟩ => (match cd.mro, sl.toList with
    | .ref C' :: bm, [_, _, _, _, some (.builtin n), _] => decide (C' = C) && (decide (n = "ValueError.__new__") && (!cd.hasDel && (cd.hasDict && PySem.HandSPX.refsVE bm)))
    | _, _ => false)
  | _ => false
theorem oexB_ok {K : PySem.W.Frag} {C : Addr} (h : oexB K C = true) : ∃ nm q N bs bm sn sub ab col dd k0 k1 k2 k3 k5, K.lookup C = some (excClassObj nm q C N bs bm true sn sub ab col dd k0 k1 k2 k3 k5 "ValueError.__new__") ∧ PySem.HandSPX.refsVE bm = true := by
  unfold oexB at h
  split at h
  · rename_i dd cd sl ho
    split at h
    · rename_i C' bm k0 k1 k2 k3 n k5 hm hs
      obtain ⟨h1, h⟩ := He.ba h
      obtain ⟨h2, h⟩ := He.ba h
      obtain ⟨h3, h⟩ := He.ba h
      obtain ⟨h4, h5⟩ := He.ba h
      have e1 := of_decide_eq_true h1
      have e2 := of_decide_eq_true h2
      subst e1 e2
      obtain ⟨nm, bs, mro, ns, qn, hd, sn, sub, ab, col, del⟩ := cd
      dsimp only at hm h3 h4
      subst hm h4
      have e3 : del = false := by simpa using h3
      subst e3
      obtain ⟨l⟩ := sl
      dsimp only at hs
      subst hs
      exact ⟨nm, qn, ns, bs, bm, sn, sub, ab, col, dd, k0, k1, k2, k3, k5, ho, h5⟩
    · cases h
  · cases h
def excB (K : PySem.W.Frag) (C fI : Addr) : Bool :=
  oexB K C && (He.eqO (PySem.W.findIn K (.ref C) "__setattr__") (some (some (.builtin "object.__setattr__"))) && (decide (PySem.W.subIn K (.ref C) (.type "BaseException") = some true) && (decide (PySem.W.typeIn K (.ref C) = some (.type "type")) && (PySem.W.keepIn K (.ref C) &&
  (He.eqO (PySem.W.findIn K (.ref C) "__init__") (some (some (.ref fI))) && (decide (PySem.W.typeIn K (.ref fI) = some (.type "function")) && (He.eqO (PySem.W.findIn K (.ref C) "value") (some none) && (He.eqO (PySem.W.findIn K (.ref C) "__getattribute__") (some (some (.builtin "BaseException.__getattribute__"))) &&
  (He.eqO (PySem.W.findIn K (.ref C) "__getattr__") (some none) && (PySem.W.hasDictIn K C && (He.eqO (PySem.W.findIn K (.ref C) "__class__") (some (some (.builtin "object.__class__"))) && (He.eqO (PySem.W.specialIn K (.builtin "object.__class__") "__get__") (some (some (.builtin "getset_descriptor.__get__"))) &&
  (decide (PySem.W.takesIn K (.builtin "object.__class__") = some true) && decide (PySem.W.mroIn K C (.type "object") = some true))))))))))))))
theorem excB_ok {K : PySem.W.Frag} {C fI : Addr} (h : excB K C fI = true) : ExcF K C fI := by
  obtain ⟨h1, h⟩ := He.ba h
  obtain ⟨h2, h⟩ := He.ba h
  obtain ⟨h3, h⟩ := He.ba h
  obtain ⟨h4, h⟩ := He.ba h
  obtain ⟨h5, h⟩ := He.ba h
  obtain ⟨h6, h⟩ := He.ba h
  obtain ⟨h7, h⟩ := He.ba h
  obtain ⟨h8, h⟩ := He.ba h
  obtain ⟨h9, h⟩ := He.ba h
  obtain ⟨h10, h⟩ := He.ba h
  obtain ⟨h11, h⟩ := He.ba h
  obtain ⟨h12, h⟩ := He.ba h
  obtain ⟨h13, h⟩ := He.ba h
  obtain ⟨h14, h15⟩ := He.ba h
  exact ⟨⟨oexB_ok h1, He.eqO_ok h2, of_decide_eq_true h3, of_decide_eq_true h4, h5⟩, He.eqO_ok h6, of_decide_eq_true h7, He.eqO_ok h8, He.eqO_ok h9, He.eqO_ok h10, h11, He.eqO_ok h12, He.eqO_ok h13, of_decide_eq_true h14, of_decide_eq_true h15⟩

section
variable {X : Cx} {pins : List (Addr × Obj)} {σ : L2.St} {H : Hp} {s : Shared} {e C d : Addr} {fs : List (Str × V)}
theorem ex_inst (I : Inv X pins σ H s) (x : ExAt H e C fs) : ∃ (ox : Obj) (d : Addr) (mA : Str → Option Value) (od : Obj), s.heap.Ns1 d mA ∧ (∀ f, RelO (fs.lookup f) (mA f)) ∧ PySem.W.InstAt s.heap e ox C (some od) ∧ (∀ f, PySem.W.lookIn f od = some (mA f)) := by
  obtain ⟨d, h1, h2⟩ := x
  obtain ⟨vs, ho⟩ : ∃ vs : Array Value, s.heap.get? e = some ({ cls := .ref C, dict := some d, data := .fields vs } : Obj) := by
    rcases h1 with h1 | h1
    · obtain ⟨t1, q⟩ := exo_at I.hok h1
      exact ⟨_, q⟩
    · have z := I.hok e _ h1
      exact z.1
  obtain ⟨mA, hns, rel⟩ := exd_at I.hok h2
  obtain ⟨od, hod, hl⟩ := lookIn_ns hns
  exact ⟨_, d, mA, od, hns, rel, ⟨ho, rfl, rfl, hod⟩, hl⟩
end
/-- e.f of an exception -/
def tExA (K : PySem.W.Frag) (ta : TE) (f : Str) : TE := fun σ H Q => ta σ H fun x H1 => ∃ a C fI fs v, x = .ref a ∧ ExAt H1 a C fs ∧ ExcF K C fI ∧ PySem.W.findIn K (.ref C) f = some none ∧ fs.lookup f = some v ∧ Q v H1
theorem pe_exA {X : Cx} {e : Expr} {f : Str} {pos : Pos} {ta : TE} (he : PE X e ta) (hb : attributeBase e f X.env (eval e X.env) = eval e X.env := by rfl) : PE X (.Attribute e f pos) (tExA X.K ta f) := by
  refine ⟨fun pins s σ H Q I h => attr_of hb (thn (he.run pins s σ H _ I h) fun u s1 ⟨x, H1, I1, rx, a, C, fI, fs, v, ex, ea, T, nf, hl, q⟩ => ?_)⟩
  subst ex
  obtain rfl : u = Value.ref a := rx
  obtain ⟨ox, d, mA, od, hns, rel, J, look⟩ := ex_inst I1 ea
  obtain ⟨u, hu, ru⟩ := RelO.some_of (v := v) (o := mA f) (by rw [← hl]; exact rel f)
  exact PySem.HandSPX.exc_get I1.kIn J T.ga T.gt T.ox.exC (PySem.W.findObj_own T.hd nf rfl (by rw [look, hu])) (handed_of ru) ⟨v, H1, I1.tok _, ru, q⟩
/-- isinstance, of an exception too -/
def rIsiX (K : PySem.W.Frag) : List V → Hp → VK → Prop := fun xs H Q => ∃ (a C fI : Addr) (fs : List (Str × V)) (c : V) (u : Value) (b : Bool), xs = [.ref a, c] ∧ ClsV c u ∧ ExAt H a C fs ∧ ExcF K C fI ∧ PySem.W.kitOne K (.ref C) u = some b ∧ Q (.bl b) H
def rIsiA (K : PySem.W.Frag) : List V → Hp → VK → Prop := fun xs H Q => rIsi K xs H Q ∨ rIsiX K xs H Q
theorem call_isiX {X : Cx} : CallR X (.builtin "isinstance") (rIsiX X.K) := by
  intro pins s σ H xs us Q I r h
  obtain ⟨a, C, fI, fs, c, u, b, rfl, k, ea, T, e, q⟩ := h
  obtain ⟨u1, u2, rfl, r1, r2⟩ := vals2 r
  have e2 := k.eq r2
  subst e2
  cases (show u1 = Value.ref a from r1)
  obtain ⟨ox, d, mA, od, hns, rel, J, look⟩ := ex_inst I ea
  have hcl : (PySem.W.clsIn X.K C).isSome = true := by
    obtain ⟨nm, q, N, bs, bm, sn, sub, ab, col, dd, k0, k1, k2, k3, k5, hC, hbm⟩ := T.ox.cls
    unfold PySem.W.clsIn
    rw [hC] <;> rfl
  exact PySem.W.kia_one (PySem.W.kitx_exc hcl T.ga T.gt T.ox.exC T.ca T.cn T.ct T.cm) I.kIn J e (fun z => nomatch z) fun tk => ⟨.bl b, H, I.tok tk, rfl, q⟩
theorem call_isiA {X : Cx} : CallR X (.builtin "isinstance") (rIsiA X.K) := CallR.or call_isi call_isiX
end GX

set_option Elab.async false
set_option linter.all false
set_option maxRecDepth 100000
set_option maxHeartbeats 4000000
/-! G4: what the helpers of the laws keep: pots, draws, picks. -/
namespace GX
open PySem PySem.Spec PyProof.Rows L2

theorem sqL_upd {K : PySem.W.Frag} {H : Hp} {l p : Addr} {o : HO} {xs : List V} (n : l ≠ p) (h : SqL K H l xs) : SqL K (upd H p o) l xs := by
  rcases h with (h | ⟨ob, h⟩) | h
  · exact .inl (.inl (by rw [upd_ne n]; exact h))
  · exact .inl (.inr ⟨ob, by rw [upd_ne n]; exact h⟩)
  · exact .inr h
theorem sqT_upd {K : PySem.W.Frag} {H : Hp} {l p : Addr} {o : HO} {xs : List V} (n : l ≠ p) (h : SqT K H l xs) : SqT K (upd H p o) l xs := by
  rcases h with (h | ⟨ob, h⟩) | h
  · exact .inl (.inl (by rw [upd_ne n]; exact h))
  · exact .inl (.inr ⟨ob, by rw [upd_ne n]; exact h⟩)
  · exact .inr h

theorem Bt.sqL {K : PySem.W.Frag} {H H' : Hp} {l p : Addr} {xs : List V} (b : Bt p H H') (n : l ≠ p) (h : SqL K H l xs) : SqL K H' l xs := by
  rcases h with (h | ⟨ob, h⟩) | h
  · exact .inl (.inl (b _ _ n h))
  · exact .inl (.inr ⟨ob, b _ _ n h⟩)
  · exact .inr h
theorem Bt.sqT {K : PySem.W.Frag} {H H' : Hp} {l p : Addr} {xs : List V} (b : Bt p H H') (n : l ≠ p) (h : SqT K H l xs) : SqT K H' l xs := by
  rcases h with (h | ⟨ob, h⟩) | h
  · exact .inl (.inl (b _ _ n h))
  · exact .inl (.inr ⟨ob, b _ _ n h⟩)
  · exact .inr h
/-! ### small numbers -/
theorem log2_lt64 {i : Int} (h1 : -(2 ^ 64) < i) (h2 : i < 2 ^ 64) : i.natAbs.log2 < 64 := by
  by_cases h0 : i.natAbs = 0
  · rw [h0]
    decide
  · exact (Nat.log2_lt h0).mpr (by omega)
theorem cmul64 {i j : Int} (h1 : -(2 ^ 64) < i) (h2 : i < 2 ^ 64) (h3 : -(2 ^ 64) < j) (h4 : j < 2 ^ 64) : CMulW i j := by
  have := log2_lt64 h1 h2
  have := log2_lt64 h3 h4
  show _ + _ < 1000000
  omega
theorem cdiv64 {i j : Int} (h3 : 0 < j) (h4 : j < 2 ^ 64) : CDivW i j := by
  have := log2_lt64 (i := j) (by omega) h4
  exact ⟨h3, by omega⟩
theorem log2_mod300 (i : Int) : (i % (10 ^ 300)).natAbs.log2 < 1000 := by
  have hp : (0 : Int) < 10 ^ 300 := Int.pow_pos (by decide)
  have h1 := Int.emod_nonneg i (Int.ne_of_gt hp)
  have h2 := Int.emod_lt_of_pos i hp
  by_cases h0 : (i % (10 ^ 300)).natAbs = 0
  · rw [h0]
    decide
  · refine (Nat.log2_lt h0).mpr ?_
    have e : ((i % (10 ^ 300)).natAbs : Int) = i % (10 ^ 300) := Int.natAbs_of_nonneg h1
    have h3 : ((i % (10 ^ 300)).natAbs : Int) < ((10 ^ 300 : Nat) : Int) := by
      rw [e]
      have e2 : ((10 ^ 300 : Nat) : Int) = 10 ^ 300 := by norm_cast
      rw [e2]
      exact h2
    have h4 : (i % (10 ^ 300)).natAbs < 10 ^ 300 := Int.ofNat_lt.mp h3
    exact Nat.lt_trans h4 (by decide +kernel)
theorem sq_le {a c n : Int} (ha : 0 ≤ a) (h0 : 0 ≤ c) (h1 : c ≤ n) : 0 ≤ a * c * c ∧ a * c * c ≤ a * n * n := by
  have hac : 0 ≤ a * c := Int.mul_nonneg ha h0
  refine ⟨Int.mul_nonneg hac h0, ?_⟩
  have h2 : a * c ≤ a * n := Int.mul_le_mul_of_nonneg_left h1 ha
  exact Int.mul_le_mul h2 h1 h0 (Int.le_trans hac h2)

/-! ### pots -/
/-- digits, a seed, how often it was asked (at most c times) -/
def PotO (c : Nat) (o : HO) : Prop := ∃ own seed cnt : Int, o = .lst [.int own, .int seed, .int cnt] ∧ 0 ≤ own ∧ 0 ≤ seed ∧ seed < 2305843009213693952 ∧ 0 ≤ cnt ∧ cnt ≤ c
theorem PotO.mono {c d : Nat} {o : HO} (h : PotO c o) (k : c ≤ d) : PotO d o := by
  obtain ⟨a, b, e, h1, h2, h3, h4, h5, h6⟩ := h
  exact ⟨a, b, e, h1, h2, h3, h4, h5, by omega⟩
theorem PotO.imm {c : Nat} {o : HO} (h : PotO c o) : Imm o = false := by
  obtain ⟨a, b, e, h1, _⟩ := h
  rw [h1]
  rfl
def spPot (K : PySem.W.Frag) : Sp := fun vs H Q _ => ∃ (a : Addr) (ns : List Int) (k : Int), vs = [.ref a, .int k] ∧ SqL K H a (ns.map V.int) ∧ 0 ≤ k ∧ k ≤ 1000 ∧ ∀ p o, H p = none → PotO 0 o → Q (.ref p) (upd H p o)
def spTake : Sp := fun vs H Q _ => ∃ (p : Addr) (n : Int) (c : Nat) (o : HO), vs = [.ref p, .int n] ∧ H p = some o ∧ PotO c o ∧ c ≤ 90000 ∧ 1 ≤ n ∧ n ≤ 1000000 ∧
  ∀ H' o' i, Bt p H H' → H' p = some o' → PotO (c + 1) o' → 0 ≤ i → i < n → Q (.int i) H'
def spOf (K : PySem.W.Frag) : Sp := fun vs H Q _ => ∃ (p l : Addr) (c : Nat) (o : HO) (xs : List V), vs = [.ref p, .ref l] ∧ H p = some o ∧ PotO c o ∧ c ≤ 90000 ∧ l ≠ p ∧ (SqL K H l xs ∨ SqT K H l xs) ∧ 1 ≤ xs.length ∧ xs.length ≤ 1000 ∧
  ∀ H' o' v, Bt p H H' → H' p = some o' → PotO (c + 1) o' → v ∈ xs → Q v H'
def spPlaces (K : PySem.W.Frag) : Sp := fun vs H Q _ => ∃ (a : Addr) (ns : List Int) (m : Int), vs = [.ref a, .int m] ∧ SqL K H a (ns.map V.int) ∧ 1 ≤ m ∧ m ≤ 100 ∧ ∀ l k, H l = none → 1 ≤ k → k ≤ m → Q (.ref l) (upd H l (.lst (rgV 0 k)))
end GX

set_option Elab.async false
set_option linter.all false
set_option maxRecDepth 100000
set_option maxHeartbeats 4000000
/-! G5: data displayed, compared, cut, turned about; its kinds. -/
namespace GX
open PySem PySem.Spec PyProof.Rows L2

/-! ### data compared -/
def rEqX (K : PySem.W.Frag) : R2 := fun x y H Q => ∃ d e, D (Now K H) x d ∧ D (Now K H) y e ∧ SeqAt.shaped d = true ∧ SeqAt.shaped e = true ∧ Q (.bl (d.eqv e)) H
def rNeX (K : PySem.W.Frag) : R2 := fun x y H Q => ∃ d e, D (Now K H) x d ∧ D (Now K H) y e ∧ SeqAt.shaped d = true ∧ SeqAt.shaped e = true ∧ Q (.bl (!d.eqv e)) H
section
variable {X : Cx}
theorem op_eqX (KS : KSys X.K) (hu : X.A.units + 64 < cLine) : OpR X (compareOp .Eq) (rEqX X.K) := by
  intro pins s σ H x y v u Q I rx ry h
  obtain ⟨d, e, hd, he, sd, se, q⟩ := h
  obtain ⟨as, h1, _⟩ := D.reads KS I d x v hd rx
  obtain ⟨bs, h2, _⟩ := D.reads KS I e y u he ry
  exact SeqAt.compareEq_shaped h1 h2 sd se hu ⟨.bl _, H, I, rfl, q⟩
theorem op_neX (KS : KSys X.K) (hu : X.A.units + 64 < cLine) : OpR X (compareOp .NotEq) (rNeX X.K) := by
  intro pins s σ H x y v u Q I rx ry h
  obtain ⟨d, e, hd, he, sd, se, q⟩ := h
  obtain ⟨as, h1, _⟩ := D.reads KS I d x v hd rx
  obtain ⟨bs, h2, _⟩ := D.reads KS I e y u he ry
  exact SeqAt.compareNe_shaped h1 h2 sd se hu ⟨.bl _, H, I, rfl, q⟩
end

/-! ### slices of tuples and texts; a tuple turned about -/
theorem SlR.or {X : Cx} {r r' : V → Option Int → Option Int → Hp → VK → Prop} (h : SlR X r) (h' : SlR X r') : SlR X (fun x lo hi H Q => r x lo hi H Q ∨ r' x lo hi H Q) := by
  intro pins s σ H x v vl vu lo hi sl Q I rx hs pl pu q
  rcases q with q | q
  · exact h pins s σ H x v vl vu lo hi sl Q I rx hs pl pu q
  · exact h' pins s σ H x v vl vu lo hi sl Q I rx hs pl pu q
section
variable {prog : Program} {w : World} {A : Around} {E : Value → Shared → Prop} {s : Shared}
theorem places_rev (n : Nat) : Builtin.Slice.slicePlaces ((n : Int) - 1) (-1) (-1) = n := by
  unfold Builtin.Slice.slicePlaces
  rw [if_neg (by omega)]
  by_cases h : (n : Int) - 1 > -1
  · rw [if_pos h, show (-(-1) : Int) = 1 by decide, Int.ediv_one]
    omega
  · rw [if_neg h]
    omega
theorem applied_rev {sl : Addr} {vl vu vs : Value} {n : Nat} {Q : Int × Int × Nat → Shared → Prop} (hs : s.heap.IsSliceOf sl vl vu vs) (pl : IsPart vl .none) (pu : IsPart vu .none) (ps : IsPart vs (some (-1)))
    (h : Q ((n : Int) - 1, -1, n) s) : wpAny (model prog w) A (Builtin.Slice.sliceApplied (.ref sl) (pure (n : Int))) Q E s := by
  obtain ⟨os, hos, _, hds⟩ := hs
  unfold Builtin.Slice.sliceApplied Builtin.Slice.sliceFields
  refine wpAny_bind (wpAny_bind (wpAny_field hos hds (x := vl) rfl (wpAny_bind (wpAny_field hos hds (x := vu) rfl (wpAny_bind (wpAny_field hos hds (x := vs) rfl (wpAny_pure ?_)))))))
  refine wpAny_bind (HT.slicePart_ ps ?_)
  show wpAny _ _ (if ((-1 : Int) == 0) = true then _ else _) _ _ s
  rw [if_neg (by decide)]
  refine wpAny_bind (HT.slicePart_ pl (wpAny_bind (HT.slicePart_ pu (wpAny_bind (wpAny_pure ?_)))))
  show wpAny _ _ (pure ((n : Int) - 1, (-1 : Int), Builtin.Slice.slicePlaces ((n : Int) - 1) (-1) (-1))) _ _ s
  rw [places_rev]
  exact wpAny_pure h
theorem pick_rev (xs : Array Value) : ((List.range xs.size).filterMap fun (k : Nat) => xs[(((xs.size : Int) - 1) + (k : Int) * (-1)).toNat]?).toArray = xs.toList.reverse.toArray := by
  rw [← PySem.W.krv_pick]
  unfold slicePick
  rw [PySem.W.krv_bounds]
  show _ = ((sliceRange ((xs.size : Int) - 1) (-1) (-1)).filterMap (xs[·]?)).toArray
  rw [PySem.W.krv_sliceRange, List.filterMap_map]
  congr 1
  have e : ∀ l : List Nat, (∀ k ∈ l, k < xs.size) → l.filterMap (fun (k : Nat) => xs[(((xs.size : Int) - 1) + (k : Int) * (-1)).toNat]?) = l.filterMap ((fun x => xs[x]?) ∘ fun k => xs.size - 1 - k) := by
    intro l
    induction l with
    | nil => exact fun _ => rfl
    | cons k r ih =>
      intro h
      have hk := h k (List.mem_cons_self ..)
      have e1 : (((xs.size : Int) - 1) + (k : Int) * (-1)).toNat = xs.size - 1 - k := by omega
      rw [List.filterMap_cons, List.filterMap_cons, ih fun x hx => h x (List.mem_cons_of_mem _ hx), e1]
      rfl
  exact e _ fun k hk => List.mem_range.mp hk
theorem getItem_tup_rev {t sl : Addr} {items : Array Value} {vl vu vs : Value} {Q : Value → Shared → Prop} (ht : IsTup s.heap t items) (hs : s.heap.IsSliceOf sl vl vu vs) (pl : IsPart vl .none) (pu : IsPart vu .none) (ps : IsPart vs (some (-1)))
    (h : Q (.ref s.heap.objs.size) { s with heap := s.heap.push { cls := .type "tuple", data := .seq items.toList.reverse.toArray } }) (hsz : items.size ≤ sizeLine) : wpAny (model prog w) A (getItem (.ref t) (.ref sl)) Q E s := by
  have hfit : sizeOk (.seq items.toList.reverse.toArray) := by
    show items.toList.reverse.toArray.size ≤ sizeLine
    rw [List.size_toArray, List.length_reverse, Array.length_toList]
    exact hsz
  obtain ⟨os, hos, hcs, _⟩ := id hs
  have hT : s.TypeIs (.ref sl) "slice" := ⟨os, hos, hcs⟩
  unfold getItem
  try with_reducible refine wpAny_holding ?_
  first
    | refine wpAny_bind (wpAny_pure ?_)
    | skip
  refine wpAny_bind (wpAny_sequenceKey ht.typeIs (by decide) ?_)
  refine wpAny_bind (wpAny_callSpecial?_slot (name := Str.ofString "__getitem__") (kw := []) ht.typeIs
    PyProof.Rows.slot_tuple_getitem (wpAny_call_entry PyProof.Rows.slot_tuple_getitem ht.typeIs
      entry_tuple_getitem ?_ (args_tuple_getitem _ _)))
  refine (show wpAny _ _ (Builtin.Tuple.tupleItemsOf (.ref t) >>= _) _ _ s from wpAny_bind (tupleItemsOf_ ht (wpAny_bind (wpAny_typeOf hT ?_))))
  rw [if_pos (by decide)]
  refine wpAny_bind (applied_rev hs pl pu ps ?_)
  have no : ¬ ((((items.size : Int) - 1) == 0 && (-1 : Int) == 1 && items.size == items.size) = true) := by simp
  show wpAny _ _ (if (((items.size : Int) - 1) == 0 && (-1 : Int) == 1 && items.size == items.size) = true then _ else _) _ _ s
  rw [if_neg no, pick_rev]
  first
    | exact wpAny_bind (m := Builtin.Tuple.tupleExact _) (wpAny_newObj_type (wpAny_pure ⟨_, rfl, wpAny_pure h⟩) hfit)
    | exact wpAny_bind (wpAny_bind (m := Builtin.Tuple.tupleExact _) (wpAny_newObj_type (wpAny_pure (wpAny_pure ⟨_, rfl, wpAny_pure h⟩)) hfit))
    | exact wpAny_bind (m := Builtin.Tuple.tupleExact _) (wpAny_newObj_type (wpAny_bind (wpAny_pure (wpAny_pure ⟨_, rfl, wpAny_pure h⟩))) hfit)
    | exact wpAny_bind (wpAny_bind (m := Builtin.Tuple.tupleExact _) (wpAny_newObj_type (wpAny_pure ⟨_, rfl, wpAny_pure h⟩) hfit))
end
/-- x[::-1] of a tuple -/
def tRevT (K : PySem.W.Frag) (te : TE) : TE := fun σ H Q => te σ H fun x H1 => ∃ a xs, x = .ref a ∧ SqT K H1 a xs ∧ ∀ p, H1 p = none → Q (.ref p) (upd H1 p (.tup xs.reverse))
theorem pe_revT {X : Cx} {e : Expr} {te : TE} {k : Nat} {p1 p2 p3 pos : Pos} (he : PE X e te) : PE X (.Subscript e (.Slice none none (some (.UnaryOp .USub (.Constant (.int 1) k p1) p2)) p3) pos) (tRevT X.K te) := by
  refine ⟨fun pins s σ H Q I h => Subscript_ (thn (he.run pins s σ H _ I h) fun v s1 ⟨x, H1, I1, r1, a, xs, ex, hx, q⟩ => ?_)⟩
  subst ex
  cases r1
  have hst : PO X (some (.UnaryOp .USub (.Constant (.int 1) k p1) p2)) (tPart (tUn (rU fun i => .int (-i)) (tC (.int 1)))) := po_some (pe_un un_neg pe_int)
  refine wpAny_Slice (thn (po_none.run pins s1 σ H1 (fun o H2 => o = none ∧ H2 = H1) I1 ⟨rfl, rfl⟩) fun vl s2 ⟨l, H2, I2, pl, el, e2⟩ => ?_)
  subst el e2
  refine thn (po_none.run pins s2 σ H2 (fun o H3 => o = none ∧ H3 = H2) I2 ⟨rfl, rfl⟩) fun vu s3 ⟨u, H3, I3, pu, eu, e3⟩ => ?_
  subst eu e3
  refine thn (hst.run pins s3 σ H3 (fun o H4 => o = some (-1) ∧ H4 = H3) I3 ⟨1, rfl, -1, rfl, rfl, rfl⟩) fun vs s4 ⟨o, H4, I4, ps, eo, e4⟩ => ?_
  subst eo e4
  have I5 : Inv X pins σ H4 { s4 with heap := s4.heap.push { cls := .type "slice", data := .fields #[vl, vu, vs] } } := I4.kept (t' := s4.toks) fun b ob q => Heap.get?_push_of_some _ q
  obtain ⟨its, r, ht, hz⟩ := I5.tuple hx
  have hlen := r.length
  show wpAny (model X.prog X.w) X.A (subscriptTail e _ (.ref a) (.ref s4.heap.objs.size)) _ X.xe { s4 with heap := s4.heap.push { cls := .type "slice", data := .fields #[vl, vu, vs] } }
  refine tail_any (ops := [.ref a, .ref s4.heap.objs.size]) ht.typeIs (PyProof.Rows.slot_tuple_getitem.lookup) ?_ (by with_unfolding_all rfl)
  refine getItem_tup_rev ht (Heap.IsSliceOf.new _ vl vu vs) pl pu ps ?_ (by rw [List.size_toArray]; omega)
  refine ⟨.ref _, _, I5.laid (t' := s4.toks) (o := .tup xs.reverse) (fun b ob q => Heap.get?_push_of_some _ q) (Nat.le_refl _) ?_, rfl, q _ (I5.hok.fresh (Nat.le_refl _))⟩
  exact ⟨by rw [List.length_reverse]; exact hz, _, r.reverse, IsTup.new _ _⟩
end GX

set_option Elab.async false
set_option linter.all false
set_option maxRecDepth 100000
set_option maxHeartbeats 4000000
/-! G6: what displays tell; data's kinds; parts of data. -/
namespace GX
open PySem PySem.Spec PyProof.Rows L2

theorem Same.tr {H H1 H2 : Hp} (a : Same H H1) (b : Same H1 H2) : Same H H2 := fun c o h => b c o (a c o h)
theorem Same.rf (H : Hp) : Same H H := fun _ _ h => h
/-- te makes d, all else stays -/
def EvD (te : TE) (σ : L2.St) (H : Hp) (d : PyData) : Prop := ∀ (H1 : Hp) (Q : VK), Same H H1 → (∀ v H2, Same H1 H2 → D (Per H2) v d → Q v H2) → te σ H1 Q
def EvA (ta : TA) (σ : L2.St) (H : Hp) (ds : List PyData) : Prop := ∀ (H1 : Hp) (Q : List V → Hp → Prop), Same H H1 → (∀ vs H2, Same H1 H2 → DA (Per H2) vs ds → Q vs H2) → ta σ H1 Q
theorem D.sm {H H' : Hp} {v : V} {d : PyData} (h : D (Per H) v d) (s : Same H H') : D (Per H') v d := D.mono (Per.mo (Same.mo s)) h
theorem DA.sm {H H' : Hp} {v : List V} {d : List PyData} (h : DA (Per H) v d) (s : Same H H') : DA (Per H') v d := DA.mono (Per.mo (Same.mo s)) h
section
variable {σ : L2.St} {H : Hp} {te : TE} {ta : TA} {d : PyData} {ds : List PyData} {v : V}
theorem ev_c (h : ∀ L, D L v d) : EvD (tC v) σ H d := fun H1 Q s k => k v H1 (Same.rf H1) (h _)
theorem ev_non : EvD (tC .non) σ H .none := ev_c fun _ => .non
theorem ev_bl {b : Bool} : EvD (tC (.bl b)) σ H (.bool b) := ev_c fun _ => .bl b
theorem ev_int {i : Int} : EvD (tC (.int i)) σ H (.int i) := ev_c fun _ => .int i
theorem ev_str {x : Str} : EvD (tC (.str x)) σ H (.str x) := ev_c fun _ => .str x
theorem ev_neg {i : Int} : EvD (tUn (rU fun i => .int (-i)) (tC (.int i))) σ H (.int (-i)) := fun H1 Q s k => ⟨i, rfl, k _ H1 (Same.rf H1) (.int _)⟩
theorem ev_pow8 : EvD (tOp rPowA (tC (.int 10)) (tC (.int 8))) σ H (.int 100000000) := fun H1 Q s k => .inl ⟨_, _, rfl, rfl, ⟨by decide, by decide, by decide⟩, by
  have e : (10 : Int) ^ (8 : Int).toNat = 100000000 := by decide +kernel
  show Q (.int ((10 : Int) ^ (8 : Int).toNat)) H1
  rw [e]
  exact k _ H1 (Same.rf H1) (.int _)⟩
theorem ev_nil : EvA tNil σ H [] := fun H1 Q s k => k _ H1 (Same.rf H1) .nil
theorem ev_cons (h1 : EvD te σ H d) (h2 : EvA ta σ H ds) : EvA (tCons te ta) σ H (d :: ds) := fun H1 Q s k =>
  h1 H1 _ s fun v H2 s2 d2 => h2 H2 _ (Same.tr s s2) fun vs H3 s3 d3 => k _ _ (Same.tr s2 s3) (.cons (d2.sm s3) d3)
theorem ev_tup (h : EvA ta σ H ds) (hl : ds.length ≤ sizeLine := by first | decide | exact Nat.le_of_ble_eq_true rfl) : EvD (tTup ta) σ H (.tuple ds) := fun H1 Q s k =>
  h H1 _ s fun vs H2 s2 d2 => ⟨by rw [d2.len]; exact hl, fun p hp => k _ _ (Same.tr s2 (Same.new hp)) (.tup (.inl ⟨_, rfl, upd_same⟩) (d2.sm (Same.new hp)))⟩
theorem same_fz {p : Addr} {u w : HO} (hp : H p = none) : Same H (upd (upd H p u) p w) := fun a o e => by
  have n := ne_of_none e hp
  rw [upd_ne n, upd_ne n]
  exact e
theorem ev_fzl (h : EvA ta σ H ds) (hl : ds.length ≤ sizeLine := by first | decide | exact Nat.le_of_ble_eq_true rfl) : EvD (tFz (tLst ta)) σ H (.list ds) := fun H1 Q s k =>
  h H1 _ s fun vs H2 s2 d2 => ⟨by rw [d2.len]; exact hl, fun p hp => ⟨p, .lst vs, rfl, upd_same, rfl, fun o => k _ _ (Same.tr s2 (same_fz hp)) (.lst (.inr ⟨o, upd_same⟩) (d2.sm (same_fz hp)))⟩⟩
theorem ev_fd0 : EvD (tFz tDNewK) σ H (.dict []) := fun H1 Q s k p hp => ⟨p, .dK [], rfl, upd_same, rfl, fun o => k _ _ (same_fz hp) (.dic (.inr ⟨o, upd_same⟩) .nil)⟩
theorem ev_fd1 {x : Str} (h : EvD te σ H d) : EvD (tFz (tDisp [(tC (.str x), te)])) σ H (.dict [(.str x, d)]) := fun H1 Q s k p hp =>
  h _ _ (Same.tr s (Same.new hp)) fun v H2 s2 d2 => ⟨s2 _ _ upd_same, [(.inr x, v)], rfl, (by show 1 ≤ 15; decide), ⟨p, .dK [(.inr x, v)], rfl, upd_same, rfl, fun o => by
    have sm : Same H1 (upd (upd H2 p (.dK [(.inr x, v)])) p (.frz o (.dK [(.inr x, v)]))) := fun a u e => by
      have n := ne_of_none e hp
      rw [upd_ne n, upd_ne n]
      exact s2 _ _ (by rw [upd_ne n]; exact e)
    refine k _ _ sm (.dic (.inr ⟨o, upd_same⟩) (.cons (D.mono (Per.mo fun a u i e => ?_) d2) .nil))
    have n : a ≠ p := fun z => by
      subst z
      rw [s2 _ _ upd_same] at e
      cases e
      cases i
    rw [upd_ne n, upd_ne n]
    exact e⟩⟩
end
theorem ev_go {σ : L2.St} {H : Hp} {ta : TA} {ds : List PyData} {Q : List V → Hp → Prop} (h : EvA ta σ H ds) (k : ∀ vs H2, Same H H2 → DA (Per H2) vs ds → Q vs H2) : ta σ H Q := h H Q (Same.rf H) k
theorem DA.mem {L : Rdr} : ∀ {vs : List V} {ds : List PyData} {v : V}, DA L vs ds → v ∈ vs → ∃ d, d ∈ ds ∧ D L v d
  | _, _, _, .nil, h => by cases h
  | _, _, v, .cons (v := w) (vs := vs) a b, h => by
    rcases List.mem_cons.mp h with h | h
    · subst h
      exact ⟨_, List.mem_cons_self .., a⟩
    · obtain ⟨d, h1, h2⟩ := DA.mem b h
      exact ⟨d, List.mem_cons_of_mem _ h1, h2⟩
def gdB (n m : Nat) (d : PyData) : Bool := decide (wt d ≤ n) && (decide (d.depth ≤ m) && asc d)
theorem gdB_ok {n m : Nat} {d : PyData} (h : gdB n m d = true) : Gd n m d := by
  obtain ⟨h1, h⟩ := He.ba h
  obtain ⟨h2, h3⟩ := He.ba h
  exact ⟨of_decide_eq_true h1, of_decide_eq_true h2, h3⟩
theorem gd_all {n m : Nat} {ds : List PyData} (h : ds.all (gdB n m) = true) : ∀ d ∈ ds, Gd n m d := fun d hd => gdB_ok (List.all_eq_true.mp h d hd)
/-- a display of data -/
def tDA (ds : List PyData) : TA := fun σ H Q => ∀ vs H2, Same H H2 → DA (Per H2) vs ds → Q vs H2
theorem pa_dt {X : Cx} {es : List Expr} {ta : TA} {ds : List PyData} (h : PA X es ta) (k : ∀ σ H, EvA ta σ H ds) : PA X es (tDA ds) :=
  ⟨fun pl pins s σ H Q I q => h.run pl pins s σ H Q I (k σ H H Q (Same.rf H) q)⟩
/-- a drawn value of any kind -/
def spOdd : Sp := fun vs H Q _ => ∃ (p : Addr) (c : Nat) (o : HO), vs = [.ref p] ∧ H p = some o ∧ PotO c o ∧ c ≤ 90000 ∧ ∀ H' o' v d, Bt p H H' → H' p = some o' → PotO (c + 1) o' → D (Per H') v d → Gd 40 3 d → Q v H'
end GX

set_option Elab.async false
set_option linter.all false
set_option maxRecDepth 100000
set_option maxHeartbeats 4000000
/-! G7: displays of what a value gives; parts of data and their sizes. -/
namespace GX
open PySem PySem.Spec PyProof.Rows L2

/-! ### lists of data -/
section
variable {L : Rdr}
theorem DA.drop : ∀ {vs : List V} {ds : List PyData} (i : Nat), DA L vs ds → DA L (vs.drop i) (ds.drop i)
  | _, _, 0, h => h
  | _, _, i + 1, .nil => .nil
  | _, _, i + 1, .cons _ b => DA.drop i b
theorem DA.take : ∀ {vs : List V} {ds : List PyData} (i : Nat), DA L vs ds → DA L (vs.take i) (ds.take i)
  | _, _, 0, h => .nil
  | _, _, i + 1, .nil => .nil
  | _, _, i + 1, .cons a b => .cons a (DA.take i b)
theorem DA.rev {vs : List V} {ds : List PyData} (h : DA L vs ds) : DA L vs.reverse ds.reverse := by
  have go : ∀ (vs : List V) (ds : List PyData), DA L vs ds → DA L vs.reverse ds.reverse := by
    intro vs
    induction vs with
    | nil => intro ds h; cases h; exact .nil
    | cons v vs ih =>
      intro ds h
      cases h with
      | cons a b =>
        rw [List.reverse_cons, List.reverse_cons]
        exact (ih _ b).app (.cons a .nil)
  exact go vs ds h
end
def cutD (ds : List PyData) (lo hi : Option Int) : List PyData := (ds.drop (HT.sIx ds.length 0 lo)).take (HT.sIx ds.length ds.length hi - HT.sIx ds.length 0 lo)
theorem wtA_sub {xs ys : List PyData} (h : xs.Sublist ys) : wtA xs ≤ wtA ys := by
  induction h with
  | slnil => exact Nat.le_refl _
  | cons a _ ih => simp only [wtA]; omega
  | cons_cons a _ ih => simp only [wtA]; omega
theorem depthA_sub {xs ys : List PyData} (h : xs.Sublist ys) : PyData.depthAll xs ≤ PyData.depthAll ys := by
  induction h with
  | slnil => exact Nat.le_refl _
  | cons a _ ih => simp only [PyData.depthAll]; omega
  | cons_cons a _ ih => simp only [PyData.depthAll]; omega
theorem ascA_sub {xs ys : List PyData} (h : xs.Sublist ys) (k : ascA ys = true) : ascA xs = true := by
  induction h with
  | slnil => exact k
  | cons a _ ih => simp only [ascA, Bool.and_eq_true] at k; exact ih k.2
  | cons_cons a _ ih => simp only [ascA, Bool.and_eq_true] at k ⊢; exact ⟨k.1, ih k.2⟩
theorem wtA_app (xs ys : List PyData) : wtA (xs ++ ys) = wtA xs + wtA ys := by
  induction xs with
  | nil => simp [wtA]
  | cons a r ih => simp only [List.cons_append, wtA, ih]; omega
theorem depthA_app (xs ys : List PyData) : PyData.depthAll (xs ++ ys) = max (PyData.depthAll xs) (PyData.depthAll ys) := by
  induction xs with
  | nil => simp [PyData.depthAll]
  | cons a r ih => simp only [List.cons_append, PyData.depthAll, ih]; omega
theorem ascA_app (xs ys : List PyData) : ascA (xs ++ ys) = (ascA xs && ascA ys) := by
  induction xs with
  | nil => simp [ascA]
  | cons a r ih => simp only [List.cons_append, ascA, ih, Bool.and_assoc]
theorem wtA_rev (xs : List PyData) : wtA xs.reverse = wtA xs := by
  induction xs with
  | nil => rfl
  | cons a r ih => rw [List.reverse_cons, wtA_app, ih]; simp only [wtA]; omega
theorem depthA_rev (xs : List PyData) : PyData.depthAll xs.reverse = PyData.depthAll xs := by
  induction xs with
  | nil => rfl
  | cons a r ih => rw [List.reverse_cons, depthA_app, ih]; simp only [PyData.depthAll]; omega
theorem ascA_rev (xs : List PyData) : ascA xs.reverse = ascA xs := by
  induction xs with
  | nil => rfl
  | cons a r ih => rw [List.reverse_cons, ascA_app, ih]; simp only [ascA, Bool.and_true]; exact Bool.and_comm _ _
theorem cutD_sub (ds : List PyData) (lo hi : Option Int) : (cutD ds lo hi).Sublist ds := (List.take_sublist _ _).trans (List.drop_sublist _ _)
/-- a list's sizes -/
structure GdA (n m : Nat) (ds : List PyData) : Prop where
  w : wtA ds ≤ n
  dp : PyData.depthAll ds ≤ m
  as : ascA ds = true
theorem GdA.sub {n m : Nat} {xs ys : List PyData} (g : GdA n m ys) (h : xs.Sublist ys) : GdA n m xs := ⟨Nat.le_trans (wtA_sub h) g.w, Nat.le_trans (depthA_sub h) g.dp, ascA_sub h g.as⟩
theorem GdA.app {n n' m : Nat} {xs ys : List PyData} (g : GdA n m xs) (g' : GdA n' m ys) : GdA (n + n') m (xs ++ ys) := ⟨by rw [wtA_app]; exact Nat.add_le_add g.w g'.w, by rw [depthA_app]; exact Nat.max_le.mpr ⟨g.dp, g'.dp⟩, by rw [ascA_app, g.as, g'.as]; rfl⟩
theorem GdA.rev {n m : Nat} {xs : List PyData} (g : GdA n m xs) : GdA n m xs.reverse := ⟨by rw [wtA_rev]; exact g.w, by rw [depthA_rev]; exact g.dp, by rw [ascA_rev]; exact g.as⟩
theorem GdA.mono {n n' m m' : Nat} {xs : List PyData} (g : GdA n m xs) (h : n ≤ n') (k : m ≤ m') : GdA n' m' xs := ⟨Nat.le_trans g.w h, Nat.le_trans g.dp k, g.as⟩
theorem Gd.tupA {n m : Nat} {ds : List PyData} (g : Gd n m (.tuple ds)) : GdA (n - 3) (m - 1) ds ∧ 3 ≤ n ∧ 1 ≤ m := by
  obtain ⟨h1, h2, h3⟩ := g
  simp only [wt] at h1
  simp only [PyData.depth] at h2
  simp only [asc] at h3
  exact ⟨⟨by omega, by omega, h3⟩, by omega, by omega⟩
theorem GdA.tup {n m : Nat} {ds : List PyData} (g : GdA n m ds) : Gd (n + 3) (m + 1) (.tuple ds) := ⟨by simp only [wt]; have := g.w; omega, by simp only [PyData.depth]; have := g.dp; omega, by simp only [asc]; exact g.as⟩
theorem GdA.lst {n m : Nat} {ds : List PyData} (g : GdA n m ds) : Gd (n + 2) (m + 1) (.list ds) := ⟨by simp only [wt]; have := g.w; omega, by simp only [PyData.depth]; have := g.dp; omega, by simp only [asc]; exact g.as⟩
theorem GdA.one {n m : Nat} {d : PyData} (g : Gd n m d) : GdA (n + 2) m [d] := ⟨by simp only [wtA]; have := g.w; omega, by simp only [PyData.depthAll]; have := g.dp; omega, by simp only [ascA, g.as, Bool.and_true]⟩
theorem GdA.len {n m : Nat} {ds : List PyData} (g : GdA n m ds) : ds.length ≤ n := by
  have h : ∀ xs : List PyData, 2 * xs.length ≤ wtA xs := by
    intro xs
    induction xs with
    | nil => exact Nat.zero_le _
    | cons a r ih => simp only [List.length_cons, wtA]; omega
  have := h ds
  have := g.w
  omega
theorem GdA.get {n m : Nat} {ds : List PyData} {d : PyData} {i : Nat} (g : GdA n m ds) (h : ds[i]? = some d) : Gd n m d ∧ wt d + 2 + wtA (ds.take i) + wtA (ds.drop (i + 1)) = wtA ds := by
  have go : ∀ (ds : List PyData) (i : Nat), ds[i]? = some d → ascA ds = true → (d.depth ≤ PyData.depthAll ds ∧ asc d = true) ∧ wt d + 2 + wtA (ds.take i) + wtA (ds.drop (i + 1)) = wtA ds := by
    intro ds
    induction ds with
    | nil => intro i h; simp at h
    | cons a r ih =>
      intro i h k
      simp only [ascA, Bool.and_eq_true] at k
      cases i with
      | zero =>
        simp only [List.getElem?_cons_zero, Option.some.injEq] at h
        subst h
        simp only [PyData.depthAll, List.take_zero, wtA, Nat.zero_add, List.drop_succ_cons, List.drop_zero]
        exact ⟨⟨Nat.le_max_left _ _, k.1⟩, trivial⟩
      | succ i =>
        simp only [List.getElem?_cons_succ] at h
        obtain ⟨⟨h1, h2⟩, h3⟩ := ih i h k.2
        simp only [PyData.depthAll, List.take_succ_cons, wtA, List.drop_succ_cons]
        exact ⟨⟨by omega, h2⟩, by omega⟩
  obtain ⟨⟨h1, h2⟩, h3⟩ := go ds i h g.as
  exact ⟨⟨by have := g.w; omega, Nat.le_trans h1 g.dp, h2⟩, h3⟩

/-! ### rules over data -/
section
variable {K : PySem.W.Frag} {H : Hp} {x y : V} {ds es : List PyData} {Q : VK}
theorem per_sqT {a : Addr} {xs : List V} (h : Per H a (.tup xs)) : SqT K H a xs := by
  rcases h with ⟨_, e, h⟩ | ⟨o, h⟩
  · cases e
    exact .inl (.inl h)
  · exact .inl (.inr ⟨o, h⟩)
theorem dat_cat (hx : D (Per H) x (.tuple ds)) (hy : D (Per H) y (.tuple es)) (hl : ds.length + es.length ≤ sizeLine) (k : ∀ v H', Same H H' → D (Per H') v (.tuple (ds ++ es)) → Q v H') : rCatA K x y H Q := by
  cases hx with
  | tup ha da =>
    cases hy with
    | tup hb db =>
      rename_i a xs b ys
      refine ⟨a, b, xs, ys, rfl, rfl, per_sqT ha, per_sqT hb, by rw [da.len, db.len]; exact hl, fun e => ?_, fun e1 e2 => ?_, fun e1 e2 p hp => ?_⟩
      · subst e
        cases da
        exact k _ _ (Same.rf H) (.tup hb db)
      · subst e2
        cases db
        refine k _ _ (Same.rf H) ?_
        rw [List.append_nil]
        exact .tup ha da
      · exact k _ _ (Same.new hp) (.tup (.inl ⟨_, rfl, upd_same⟩) ((da.app db).sm (Same.new hp)))
theorem dat_cut {lo hi : Option Int} (hx : D (Per H) x (.tuple ds)) (k : ∀ v H', Same H H' → D (Per H') v (.tuple (cutD ds lo hi)) → Q v H') : rSlA K x lo hi H Q := by
  cases hx with
  | tup ha da =>
    rename_i a xs
    refine ⟨a, xs, rfl, per_sqT ha, fun ⟨h1, h2⟩ => k _ _ (Same.rf H) ?_, fun _ p hp => k _ _ (Same.new hp) (.tup (.inl ⟨_, rfl, upd_same⟩) (DA.sm (H := H) ?_ (Same.new hp)))⟩
    · have e : cutD ds lo hi = ds := by
        unfold cutD
        rw [← da.len, h1, h2, List.drop_zero, Nat.sub_zero, da.len, List.take_length]
      rw [e]
      exact .tup ha da
    · unfold cutD cutV
      rw [← da.len]
      exact (da.drop _).take _
end
end GX

set_option Elab.async false
set_option linter.all false
set_option maxRecDepth 100000
set_option maxHeartbeats 4000000
/-! G8: displays of what a value gives: parts, sums, texts. -/
namespace GX
open PySem PySem.Spec PyProof.Rows L2
/-- at i: a value that is d -/
def VarD (i : Nat) (d : PyData) (σ : L2.St) (H : Hp) : Prop := ∃ v, σ[i]? = some (some v) ∧ D (Per H) v d
/-- a display of what x gives -/
def tDV {α : Type} (C : α → L2.St → Hp → Prop) (ds : α → List PyData) : TA := fun σ H Q => ∃ x, C x σ H ∧ ∀ vs H2, Same H H2 → DA (Per H2) vs (ds x) → Q vs H2
theorem pa_dv {X : Cx} {es : List Expr} {ta : TA} {α : Type} {C : α → L2.St → Hp → Prop} {ds : α → List PyData} (h : PA X es ta) (k : ∀ x σ H, C x σ H → EvA ta σ H (ds x)) : PA X es (tDV C ds) :=
  ⟨fun pl pins s σ H Q I ⟨x, c, q⟩ => h.run pl pins s σ H Q I (k x σ H c H Q (Same.rf H) q)⟩
def rSlX (K : PySem.W.Frag) : V → Option Int → Option Int → Hp → VK → Prop := fun x lo hi H Q => rSlA K x lo hi H Q ∨ rSlS x lo hi H Q
theorem sl_X {X : Cx} : SlR X (rSlX X.K) := SlR.or sl_tupA sl_str
/-- a slice's part -/
def EvO (tl : TO) (σ : L2.St) (H : Hp) (o : Option Int) : Prop := ∀ (H1 : Hp) (Q : Option Int → Hp → Prop), Same H H1 → Q o H1 → tl σ H1 Q
section
variable {σ : L2.St} {H : Hp} {te tb : TE} {ta : TA} {tl th : TO} {d e : PyData} {ds es : List PyData} {v : V} {K : PySem.W.Frag} {lo hi : Option Int}
theorem ev_var {i : Nat} (h : VarD i d σ H) : EvD (tVar i) σ H d := fun H1 Q s k => let ⟨v, e, dv⟩ := h; ⟨v, e, k v H1 (Same.rf H1) (dv.sm s)⟩
theorem eo_non : EvO tNoPart σ H .none := fun H1 Q s q => q
theorem eo_int {i : Int} : EvO (tPart (tC (.int i))) σ H (some i) := fun H1 Q s q => ⟨i, rfl, q⟩
theorem eo_neg {i : Int} : EvO (tPart (tUn (rU fun i => .int (-i)) (tC (.int i)))) σ H (some (-i)) := fun H1 Q s q => ⟨i, rfl, -i, rfl, q⟩
theorem ev_slT (h : EvD te σ H (.tuple ds)) (h1 : EvO tl σ H lo) (h2 : EvO th σ H hi) : EvD (tSl (rSlX K) te tl th) σ H (.tuple (cutD ds lo hi)) := fun H1 Q s k =>
  h H1 _ s fun v H2 s2 d2 => h1 H2 _ (Same.tr s s2) (h2 H2 _ (Same.tr s s2) (.inl (dat_cut d2 fun w H3 s3 d3 => k w H3 (Same.tr s2 s3) d3)))
theorem ev_slS {x : Str} (hz : x.length ≤ sizeLine) (h : EvD te σ H (.str x)) (h1 : EvO tl σ H lo) (h2 : EvO th σ H hi) : EvD (tSl (rSlX K) te tl th) σ H (.str (cutS x lo hi)) := fun H1 Q s k =>
  h H1 _ s fun v H2 s2 d2 => h1 H2 _ (Same.tr s s2) (h2 H2 _ (Same.tr s s2) (.inr (by cases d2; exact ⟨x, rfl, hz, k _ H2 s2 (.str _)⟩)))
theorem ev_catT (h1 : EvD te σ H (.tuple ds)) (h2 : EvD tb σ H (.tuple es)) (hl : ds.length + es.length ≤ sizeLine) : EvD (tOp (rAddA K) te tb) σ H (.tuple (ds ++ es)) := fun H1 Q s k =>
  h1 H1 _ s fun v H2 s2 d2 => h2 H2 _ (Same.tr s s2) fun w H3 s3 d3 => .inr (.inr (.inr (dat_cat (d2.sm s3) d3 hl fun u H4 s4 d4 => k u H4 (Same.tr s2 (Same.tr s3 s4)) d4)))
theorem ev_catS {x y : Str} (h1 : EvD te σ H (.str x)) (h2 : EvD tb σ H (.str y)) (hl : x.length + y.length ≤ sizeLine) : EvD (tOp (rAddA K) te tb) σ H (.str (x ++ y)) := fun H1 Q s k =>
  h1 H1 _ s fun v H2 s2 d2 => h2 H2 _ (Same.tr s s2) fun w H3 s3 d3 => .inr (.inl (by cases d2; cases d3; exact ⟨x, y, rfl, rfl, hl, k _ H3 (Same.tr s2 s3) (.str _)⟩))
theorem ev_addI {i j : Int} (h1 : EvD te σ H (.int i)) (h2 : EvD tb σ H (.int j)) : EvD (tOp (rAddA K) te tb) σ H (.int (i + j)) := fun H1 Q s k =>
  h1 H1 _ s fun v H2 s2 d2 => h2 H2 _ (Same.tr s s2) fun w H3 s3 d3 => .inl (by cases d2; cases d3; exact ⟨i, j, rfl, rfl, k _ H3 (Same.tr s2 s3) (.int _)⟩)
theorem ev_subI {i j : Int} (h1 : EvD te σ H (.int i)) (h2 : EvD tb σ H (.int j)) : EvD (tOp (rI0 fun i j => .int (i - j)) te tb) σ H (.int (i - j)) := fun H1 Q s k =>
  h1 H1 _ s fun v H2 s2 d2 => h2 H2 _ (Same.tr s s2) fun w H3 s3 d3 => by cases d2; cases d3; exact ⟨i, j, rfl, rfl, k _ H3 (Same.tr s2 s3) (.int _)⟩
theorem ev_eqI {i j : Int} (h1 : EvD te σ H (.int i)) (h2 : EvD tb σ H (.int j)) : EvD (tOp (rEqA K) te tb) σ H (.bool (decide (V.int i = V.int j))) := fun H1 Q s k =>
  h1 H1 _ s fun v H2 s2 d2 => h2 H2 _ (Same.tr s s2) fun w H3 s3 d3 => .inl (by cases d2; cases d3; exact ⟨rfl, k _ H3 (Same.tr s2 s3) (.bl _)⟩)
theorem ev_negV {i : Int} (h1 : EvD te σ H (.int i)) : EvD (tUn (rU fun i => .int (-i)) te) σ H (.int (-i)) := fun H1 Q s k =>
  h1 H1 _ s fun v H2 s2 d2 => by cases d2; exact ⟨i, rfl, k _ H2 s2 (.int _)⟩
theorem ev_not {b : Bool} (h1 : EvD te σ H (.bool b)) : EvD (tNotV te) σ H (.bool (!b)) := fun H1 Q s k =>
  h1 H1 _ s fun v H2 s2 d2 => by cases d2; exact ⟨b, rfl, k _ H2 s2 (.bl _)⟩
theorem ev_rev (h : EvD te σ H (.tuple ds)) (hl : ds.length ≤ sizeLine) : EvD (tRevT K te) σ H (.tuple ds.reverse) := fun H1 Q s k =>
  h H1 _ s fun v H2 s2 d2 => by
    cases d2 with
    | tup ha da => exact ⟨_, _, rfl, per_sqT ha, fun p hp => k _ _ (Same.tr s2 (Same.new hp)) (.tup (.inl ⟨_, rfl, upd_same⟩) (da.rev.sm (Same.new hp)))⟩
theorem ev_intB {b : Bool} (h1 : EvA ta σ H [.bool b]) : EvD (tCB (fun xs H Q => (∃ i, xs = [V.int i] ∧ Q (V.int i) H) ∨ ∃ k, xs = [V.bl k] ∧ Q (V.int (if k = true then 1 else 0)) H) ta) σ H (.int (if b = true then 1 else 0)) := fun H1 Q s k =>
  h1 H1 _ s fun vs H2 s2 d2 => by
    cases d2 with
    | cons a b =>
      cases a
      cases b
      exact .inr ⟨_, rfl, k _ H2 s2 (.int _)⟩
theorem ev_strI {i : Int} (h1 : EvA ta σ H [.int i]) (hl : i.natAbs.log2 < 1920) : EvD (tCB (fun xs H Q => ∃ i, xs = [V.int i] ∧ i.natAbs.log2 < 1920 ∧ Q (V.str (Str.ofString (toString i))) H) ta) σ H (.str (Str.ofString (toString i))) := fun H1 Q s k =>
  h1 H1 _ s fun vs H2 s2 d2 => by
    cases d2 with
    | cons a b =>
      cases a
      cases b
      exact ⟨i, rfl, hl, k _ H2 s2 (.str _)⟩
theorem ev_lstT (h1 : EvA ta σ H [.tuple ds]) : EvD (tFz (tCB (fun xs H Q => ∃ p ys, xs = [V.ref p] ∧ (SqL K H p ys ∨ SqT K H p ys) ∧ ∀ l, H l = none → Q (V.ref l) (upd H l (HO.lst ys))) ta)) σ H (.list ds) := fun H1 Q s k =>
  h1 H1 _ s fun vs H2 s2 d2 => by
    cases d2 with
    | cons a b =>
      cases b
      cases a with
      | tup ha da => exact ⟨_, _, rfl, .inr (per_sqT ha), fun p hp => ⟨p, _, rfl, upd_same, rfl, fun o => k _ _ (Same.tr s2 (same_fz hp)) (.lst (.inr ⟨o, upd_same⟩) (da.sm (same_fz hp)))⟩⟩
theorem ev_upper {x : Str} (h : EvD te σ H (.str x)) (hl : x.length ≤ 5592405) : EvD (tBM0 K "str" (fun x xs H Q => ∃ a, x = .str a ∧ xs = [] ∧ a.length ≤ 5592405 ∧ Q (.str (Txt.upper a)) H) te) σ H (.str (Txt.upper x)) := fun H1 Q s k =>
  h H1 _ s fun v H2 s2 d2 => by
    cases d2
    exact ⟨rfl, x, rfl, rfl, hl, k _ H2 s2 (.str _)⟩
end

/-! ### kinds -/
def tyN : PyData → String
  | .none => "NoneType"
  | .bool _ => "bool"
  | .int _ => "int"
  | .str _ => "str"
  | .list _ => "list"
  | .tuple _ => "tuple"
  | .dict _ => "dict"
theorem tyX_of {K : PySem.W.Frag} {H : Hp} {v : V} {d : PyData} (h : D (Per H) v d) : TyX K H v (.type (tyN d)) := by
  cases h with
  | non => exact .base .non
  | bl b => exact .base (.bl b)
  | int i => exact .base (.int i)
  | str x => exact .base (.str x)
  | lst h _ =>
    rcases h with ⟨_, e, h⟩ | ⟨o, h⟩
    · cases e
    · exact .base (.frz h)
  | tup h _ =>
    rcases h with ⟨_, e, h⟩ | ⟨o, h⟩
    · cases e
      exact .base (.tup h)
    · exact .fTuple h
  | dic h _ =>
    rcases h with ⟨_, e, h⟩ | ⟨o, h⟩
    · cases e
    · exact .fDict h
theorem isi_dat {K : PySem.W.Frag} {H : Hp} {v : V} {d : PyData} {c : String} {b : Bool} {Q : VK} (h : D (Per H) v d) (e : PySem.W.kitOne K (.type (tyN d)) (.type c) = some b) (q : Q (.bl b) H) : rIsiA K [v, .ty c] H Q :=
  .inl ⟨v, _, _, _, b, rfl, .ty c, tyX_of h, e, q⟩
end GX

set_option Elab.async false
set_option linter.all false
set_option maxRecDepth 100000
set_option maxHeartbeats 4000000
/-! G9: one of some data; sizes of what a value gives. -/
namespace GX
open PySem PySem.Spec PyProof.Rows L2
theorem ifF {p q : Prop} (h : q) : if (false = true) then p else q := h
theorem ifT {p q : Prop} (h : p) : if (true = true) then p else q := h
theorem of_dat {K : PySem.W.Frag} {H H1 : Hp} {p l : Addr} {c : Nat} {o : HO} {vs : List V} {ds : List PyData} {Q : VK} {E : XK} (hp : H p = some o) (po : PotO c o) (hc : c ≤ 90000) (s1 : Same H H1) (f1 : H1 l = none) (d1 : DA (Per H1) vs ds) (n1 : 1 ≤ ds.length) (n2 : ds.length ≤ 1000)
    (k : ∀ H' o' v d, Bt p H H' → H' p = some o' → PotO (c + 1) o' → D (Per H') v d → d ∈ ds → Q v H') : spOf K [.ref p, .ref l] (upd H1 l (.lst vs)) Q E := by
  have hp1 := s1 _ _ hp
  have n := ne_of_none hp1 f1
  have hp2 : upd H1 l (.lst vs) p = some o := by rw [upd_ne n]; exact hp1
  refine ⟨p, l, c, o, vs, rfl, hp2, po, hc, Ne.symm n, .inl (SqL.of upd_same), by rw [d1.len]; exact n1, by rw [d1.len]; exact n2, fun H' o' v b hp' po' hv => ?_⟩
  obtain ⟨d, hd, dv⟩ := d1.mem hv
  exact k H' o' v d (Bt.trans (Same.bt (Same.tr s1 (Same.new f1))) b) hp' po' (D.mono (Per.mo (Bt.mo b hp2 po.imm)) (dv.sm (Same.new f1))) hd

/-! ### texts -/
theorem ascT_iff {x : Str} : ascT x = true ↔ ∀ c ∈ x.cps.toList, c < 128 := by
  unfold ascT
  rw [List.all_eq_true]
  exact ⟨fun h c hc => of_decide_eq_true (h c hc), fun h c hc => decide_eq_true (h c hc)⟩
theorem cps_app (x y : Str) : (x ++ y).cps.toList = x.cps.toList ++ y.cps.toList := by
  show (x.cps ++ y.cps).toList = _
  exact Array.toList_append
theorem ascT_app {x y : Str} (h : ascT x = true) (k : ascT y = true) : ascT (x ++ y) = true := by
  rw [ascT_iff, cps_app]
  intro c hc
  rcases List.mem_append.mp hc with hc | hc
  · exact ascT_iff.mp h c hc
  · exact ascT_iff.mp k c hc
theorem ascT_cut {x : Str} {lo hi : Option Int} (h : ascT x = true) : ascT (cutS x lo hi) = true := by
  rw [ascT_iff]
  intro c hc
  have hc' : c ∈ (x.cps.toList.drop (HT.sIx x.length 0 lo)).take (HT.sIx x.length x.length hi - HT.sIx x.length 0 lo) := by
    unfold cutS at hc
    exact List.mem_toArray.mp (by simpa using hc)
  exact ascT_iff.mp h c (List.mem_of_mem_drop (List.mem_of_mem_take hc'))
theorem cutS_len (x : Str) (lo hi : Option Int) : (cutS x lo hi).length ≤ x.length := by
  show (List.toArray _).size ≤ x.cps.size
  rw [List.size_toArray, List.length_take, List.length_drop, Array.length_toList]
  omega
theorem up1_lt {c : Nat} (h : c < 128) : up1 c < 128 := by
  unfold up1
  split <;> omega
theorem upper_asc {x : Str} (h : ascT x = true) : ascT (Txt.upper x) = true ∧ (Txt.upper x).length = x.length := by
  rw [upper_ascii (ascT_iff.mp h)]
  refine ⟨ascT_iff.mpr fun c hc => ?_, Array.size_map ..⟩
  have hc' : c ∈ x.cps.toList.map up1 := by rw [← Array.toList_map]; exact hc
  obtain ⟨a, ha, rfl⟩ := List.mem_map.mp hc'
  exact up1_lt (ascT_iff.mp h a ha)
theorem ascT_num (i : Int) : ascT (Str.ofString (toString i)) = true := by
  rw [ascT_iff]
  intro c hc
  by_cases h : c < 128
  · exact h
  · exact absurd hc (int_text_free' c ⟨by omega, .inr (by omega)⟩ i)
theorem num_len (i : Int) : (Str.ofString (toString i)).length ≤ i.natAbs.log2 + 2 := by
  rw [PySem.ofString_length]
  exact int_text_length_le (by omega) (by omega)
theorem log2_near {a b : Nat} (h : a ≤ b + 1) : a.log2 ≤ b.log2 + 1 := by
  by_cases h0 : a = 0
  · subst h0
    exact Nat.zero_le _
  · have h1 : b < 2 ^ (b.log2 + 1) := Nat.lt_log2_self
    have h2 : a < 2 ^ (b.log2 + 2) := by
      have : 2 ^ (b.log2 + 2) = 2 ^ (b.log2 + 1) * 2 := Nat.pow_succ ..
      omega
    have := (Nat.log2_lt h0).mpr h2
    omega

/-! ### sizes -/
theorem gd_non {n m : Nat} (h : 4 ≤ n) : Gd n m .none := ⟨h, Nat.zero_le _, rfl⟩
theorem gd_bl {n m : Nat} {b : Bool} (h : 5 ≤ n) : Gd n m (.bool b) := ⟨h, Nat.zero_le _, rfl⟩
theorem gd_int {n m : Nat} {i : Int} (h : i.natAbs.log2 + 4 ≤ n) : Gd n m (.int i) := ⟨h, Nat.zero_le _, rfl⟩
theorem gd_str {n m : Nat} {x : Str} (h : x.length + 2 ≤ n) (a : ascT x = true) : Gd n m (.str x) := ⟨h, Nat.zero_le _, a⟩
theorem gd_str' {n m : Nat} {x : Str} (g : Gd n m (.str x)) : x.length + 2 ≤ n ∧ ascT x = true := ⟨g.w, g.as⟩
theorem gd_int' {n m : Nat} {i : Int} (g : Gd n m (.int i)) : i.natAbs.log2 + 4 ≤ n := g.w
end GX

set_option Elab.async false
set_option linter.all false
set_option maxRecDepth 100000
set_option maxHeartbeats 4000000
/-! G10: exceptions that keep a value, made in displays; which ones they are. -/
namespace GX
open PySem PySem.Spec PyProof.Rows L2
/-- self.value = value -/
def spInit (K : PySem.W.Frag) : Sp := fun vs H Q _ => ∃ (a C : Addr) (v : V), vs = [.ref a, v] ∧ OexC K C ∧ PySem.W.findIn K (.ref C) "value" = some none ∧ H a = some (exo a C none) ∧
  ∀ dx, H dx = none → dx ≠ a → Q .non (upd (upd H dx (exd dx [("value", v)])) a (exo a C (some dx)))
/-- an error class: its name, its facts -/
structure EC (K : PySem.W.Frag) (mg : Str → Option Value) (fI : Addr) (x : Str) (C : Addr) : Prop where
  f : ExcF K C fI
  hm : mg x = some (.ref C)
/-- their common __init__ -/
structure IN (P : Program) (w : World) (K : PySem.W.Frag) (mg : Str → Option Value) (base : Heap) (fI : Addr) : Prop where
  ex : ∃ (fd : FuncData) (ps : List Str), FnG P w K mg base CX0 1 fI fd ps (spInit K) ∧ Binds K fd ps []
theorem pe_ex {X : Cx} {fI C : Addr} {x : Str} {p pos : Pos} {e : Expr} {ta : TA} {k : Nat} (h : EC X.K X.mg fI x C) (i : IN X.prog X.w X.K X.mg X.base fI) (hr : RmG k X.A) (hk : 2 ≤ k) (ha : PA X [e] ta) (hg : Gl X x := by rfl)
    (hdb : (x == ("__debug__" : Str)) = false := by decide) (he : starEach [e] X.env = (false, eval e X.env) :: starEach [] X.env := by rfl) (hpl : (backTo pos (starEach [] X.env)).any (·.1) = false := by rfl) :
    PE X (.Call (.Name x p) [e] [] pos) (tMkV C (spInit X.K) E0 ta) := by
  obtain ⟨fd, ps, F, hb⟩ := i.ex
  exact pe_mkV h.f.ox h.f.iC h.f.tI F (hr.mono hk) hb pass0 hg h.hm ha hdb he hpl
/-- each one at its place, with v -/
inductive ExL (H : Hp) (v : V) : List V → List Addr → Prop
  | nil : ExL H v [] []
  | cons {e C : Addr} {vs : List V} {Cs : List Addr} : ExAt H e C [("value", v)] → ExL H v vs Cs → ExL H v (.ref e :: vs) (C :: Cs)
theorem ExL.sm {H H' : Hp} {v : V} {vs : List V} {Cs : List Addr} (h : ExL H v vs Cs) (s : Same H H') : ExL H' v vs Cs := by
  induction h with
  | nil => exact .nil
  | cons a _ ih => exact .cons (a.mo (Same.mo s)) ih
theorem ExL.app {H : Hp} {v : V} {vs vs' : List V} {Cs Cs' : List Addr} (h : ExL H v vs Cs) (k : ExL H v vs' Cs') : ExL H v (vs ++ vs') (Cs ++ Cs') := by
  induction h with
  | nil => exact k
  | cons a _ ih => exact .cons a ih
theorem ExL.len {H : Hp} {v : V} {vs : List V} {Cs : List Addr} (h : ExL H v vs Cs) : vs.length = Cs.length := by
  induction h with
  | nil => rfl
  | cons a _ ih => exact congrArg Nat.succ ih
theorem ExL.get {H : Hp} {v : V} {vs : List V} {Cs : List Addr} (h : ExL H v vs Cs) : ∀ {i : Nat} {C : Addr}, Cs[i]? = some C → ∃ e, vs[i]? = some (.ref e) ∧ ExAt H e C [("value", v)] := by
  induction h with
  | nil => intro i C e; simp at e
  | @cons e C' vs Cs a b ih =>
    intro i C ei
    cases i with
    | zero =>
      have z : C' = C := by simpa using ei
      subst z
      exact ⟨e, rfl, a⟩
    | succ i =>
      obtain ⟨e', h1, h2⟩ := ih (i := i) (C := C) (by simpa using ei)
      exact ⟨e', by simpa using h1, h2⟩
def EvE (te : TE) (σ : L2.St) (H : Hp) (v : V) (C : Addr) : Prop := ∀ (H1 : Hp) (Q : VK), Same H H1 → (∀ e H2, Same H1 H2 → ExAt H2 e C [("value", v)] → Q (.ref e) H2) → te σ H1 Q
def EvEs (ta : TA) (σ : L2.St) (H : Hp) (v : V) (Cs : List Addr) : Prop := ∀ (H1 : Hp) (Q : List V → Hp → Prop), Same H H1 → (∀ vs H2, Same H1 H2 → ExL H2 v vs Cs → Q vs H2) → ta σ H1 Q
section
variable {σ : L2.St} {H : Hp} {te : TE} {ta : TA} {K : PySem.W.Frag} {C fI : Addr} {Cs : List Addr} {v : V}
theorem ee_mk {i : Nat} {E : XK} (h : ExcF K C fI) (hv : σ[i]? = some (some v)) : EvE (tMkV C (spInit K) E (tCons (tVar i) tNil)) σ H v C := fun H1 Q s k =>
  ⟨v, hv, by show 1 ≤ 1000; decide, fun a fa => ⟨a, C, v, rfl, h.ox, h.noV, upd_same, fun dx fd nd => ⟨rfl, by
    have fd1 : H1 dx = none := by rw [upd_ne nd] at fd; exact fd
    have sm : Same H1 (upd (upd (upd H1 a (exo a C none)) dx (exd dx [("value", v)])) a (exo a C (some dx))) := fun b o e => by
      rw [upd_ne (ne_of_none e fa), upd_ne (ne_of_none e fd1), upd_ne (ne_of_none e fa)]
      exact e
    exact k a _ sm ⟨dx, .inl upd_same, by rw [upd_ne nd, upd_same]⟩⟩⟩⟩
theorem ee_nil : EvEs tNil σ H v [] := fun H1 Q s k => k _ H1 (Same.rf H1) .nil
theorem ee_cons (h1 : EvE te σ H v C) (h2 : EvEs ta σ H v Cs) : EvEs (tCons te ta) σ H v (C :: Cs) := fun H1 Q s k =>
  h1 H1 _ s fun e H2 s2 d2 => h2 H2 _ (Same.tr s s2) fun vs H3 s3 d3 => k _ _ (Same.tr s2 s3) (.cons (d2.mo (Same.mo s3)) d3)
end
theorem cat_lst {K : PySem.W.Frag} {H1 H2 : Hp} {l1 l2 : Addr} {vs1 vs2 : List V} {Q : VK} (e1 : H1 l1 = some (.lst vs1)) (s2 : Same H1 H2) (f2 : H2 l2 = none) (hl : vs1.length + vs2.length ≤ sizeLine)
    (k : ∀ l H3, Same H2 H3 → H3 l = some (.lst (vs1 ++ vs2)) → Q (.ref l) H3) : rAddA K (.ref l1) (.ref l2) (upd H2 l2 (.lst vs2)) Q := by
  have e2 := s2 _ _ e1
  have n := ne_of_none e2 f2
  exact .inr (.inr (.inl ⟨l1, l2, vs1, vs2, rfl, rfl, by rw [upd_ne n]; exact e2, upd_same, hl, fun l f => k l _ (Same.tr (Same.new f2) (Same.new f)) upd_same⟩))
theorem cat_ex {K : PySem.W.Frag} {H1 H2 : Hp} {l1 l2 : Addr} {v : V} {vs1 vs2 : List V} {C1 C2 : List Addr} {Q : VK} (x1 : ExL H1 v vs1 C1) (e1 : H1 l1 = some (.lst vs1)) (s2 : Same H1 H2) (f2 : H2 l2 = none) (x2 : ExL H2 v vs2 C2) (hl : C1.length + C2.length ≤ 1000)
    (k : ∀ vs l H3, Same H1 H3 → H3 l = some (.lst vs) → ExL H3 v vs (C1 ++ C2) → Q (.ref l) H3) : rAddA K (.ref l1) (.ref l2) (upd H2 l2 (.lst vs2)) Q :=
  cat_lst e1 s2 f2 (by rw [x1.len, x2.len]; exact Nat.le_trans hl (by decide)) fun l H3 s3 e3 => k _ l H3 (Same.tr s2 s3) e3 (((x1.sm s2).app x2).sm s3)
theorem cat_da {K : PySem.W.Frag} {H1 H2 : Hp} {l1 l2 : Addr} {vs1 vs2 : List V} {d1 d2 : List PyData} {Q : VK} (x1 : DA (Per H1) vs1 d1) (e1 : H1 l1 = some (.lst vs1)) (s2 : Same H1 H2) (f2 : H2 l2 = none) (x2 : DA (Per H2) vs2 d2) (hl : d1.length + d2.length ≤ 1000)
    (k : ∀ vs l H3, Same H1 H3 → H3 l = some (.lst vs) → DA (Per H3) vs (d1 ++ d2) → Q (.ref l) H3) : rAddA K (.ref l1) (.ref l2) (upd H2 l2 (.lst vs2)) Q :=
  cat_lst e1 s2 f2 (by rw [x1.len, x2.len]; exact Nat.le_trans hl (by decide)) fun l H3 s3 e3 => k _ l H3 (Same.tr s2 s3) e3 (((x1.sm s2).app x2).sm s3)
/-- errors made with what stands at i -/
def tEX (i : Nat) (Cs : List Addr) : TA := fun σ H Q => ∃ v, σ[i]? = some (some v) ∧ ∀ vs H2, Same H H2 → ExL H2 v vs Cs → Q vs H2
theorem pa_ex {X : Cx} {es : List Expr} {ta : TA} {i : Nat} {Cs : List Addr} (h : PA X es ta) (k : ∀ v σ H, σ[i]? = some (some v) → EvEs ta σ H v Cs) : PA X es (tEX i Cs) :=
  ⟨fun pl pins s σ H Q I ⟨v, c, q⟩ => h.run pl pins s σ H Q I (k v σ H c H Q (Same.rf H) q)⟩
/-- the error at i is of the class C -/
def VarE (K : PySem.W.Frag) (i : Nat) (C : Addr) (σ : L2.St) (H : Hp) : Prop := ∃ (e fI : Addr) (fs : List (Str × V)), σ[i]? = some (some (.ref e)) ∧ ExAt H e C fs ∧ ExcF K C fI
theorem ev_isi {K : PySem.W.Frag} {σ : L2.St} {H : Hp} {i : Nat} {C C' : Addr} {b : Bool} (h : VarE K i C σ H) (kb : PySem.W.kitOne K (.ref C) (.ref C') = some b) : EvD (tCB (rIsiA K) (tCons (tVar i) (tCons (tC (.ref C')) tNil))) σ H (.bool b) := fun H1 Q s k => by
  obtain ⟨e, fI, fs, hs, ea, T⟩ := h
  exact ⟨_, hs, .inr ⟨e, C, fI, fs, _, _, b, rfl, .own C', ea.mo (Same.mo s), T, kb, k _ H1 (Same.rf H1) (.bl b)⟩⟩
end GX

set_option Elab.async false
set_option linter.all false
set_option maxRecDepth 100000
set_option maxHeartbeats 4000000
/-! G11: lists of truths; what a change of something that may change keeps. -/
namespace GX
open PySem PySem.Spec PyProof.Rows L2
theorem DA.bls {L : Rdr} : ∀ {bs : List Bool} {xs : List V}, DA L xs (bs.map PyData.bool) → xs = bs.map V.bl
  | [], _, h => by cases h; rfl
  | b :: bs, _, h => by
    cases h with
    | cons a r =>
      cases a
      rw [DA.bls r]
      rfl
theorem bls_da {L : Rdr} : ∀ bs : List Bool, DA L (bs.map V.bl) (bs.map PyData.bool)
  | [] => .nil
  | b :: bs => .cons (.bl b) (bls_da bs)
theorem eqv_bls (bs : List Bool) : PyData.eqv (.list (bs.map PyData.bool)) (.list (bs.map PyData.bool)) = true := by
  have h : ∀ bs : List Bool, PyData.eqvAll (bs.map PyData.bool) (bs.map PyData.bool) = true := by
    intro bs
    induction bs with
    | nil => simp [PyData.eqvAll]
    | cons b bs ih => simp [PyData.eqvAll, PyData.eqv, ih]
  simp only [PyData.eqv, h]
theorem shaped_bls (bs : List Bool) : SeqAt.shaped (.list (bs.map PyData.bool)) = true := by
  have h : ∀ bs : List Bool, PyData.canLayAll0 (bs.map PyData.bool) = true ∧ PyData.depthAll (bs.map PyData.bool) = 0 := by
    intro bs
    induction bs with
    | nil => exact ⟨by simp [PyData.canLayAll0], by simp [PyData.depthAll]⟩
    | cons b bs ih => exact ⟨by simp [PyData.canLayAll0, PyData.canLay0, ih.1], by simp [PyData.depthAll, PyData.depth, ih.2]⟩
  unfold SeqAt.shaped
  simp only [PyData.canLay0, PyData.depth, (h bs).1, (h bs).2]
  decide
theorem Mo.over {H : Hp} {a : Addr} {u x y : HO} (e : H a = some u) (i : Imm u = false) : Mo H (upd (upd H a x) a y) := fun b w k q => by
  have n : b ≠ a := fun z => by
    subst z
    rw [e] at q
    cases q
    rw [i] at k
    cases k
  rw [upd_ne n, upd_ne n]
  exact q
theorem ifF1 {c : Bool} {p q : Prop} (e : c = false) (h : q) : if c = true then p else q := by subst e; exact h
theorem ifT1 {c : Bool} {p q : Prop} (e : c = true) (h : p) : if c = true then p else q := by subst e; exact h
end GX

set_option Elab.async false
set_option linter.all false
set_option maxRecDepth 100000
set_option maxHeartbeats 4000000
/-! G12: a head's Hook with checks of one's own; sys.modules stands in the written part. -/
namespace GX
open PySem PySem.Spec PyProof.Rows L2
def ksysB (K : PySem.W.Frag) : Bool := match K.lookup sysModules with
  | some ⟨_, _, .dict _ _, _⟩ => true
  | _ => false
theorem ksys_ok {K : PySem.W.Frag} (h : ksysB K = true) : KSys K := by
  unfold ksysB at h
  split at h
  · rename_i o e
    exact ⟨_, _, _, e, rfl⟩
  · cases h
def obsX (xb : PySem.W.Frag → Bool) (fa : List He.Fa) (fn : List He.DefD) (K : PySem.W.Frag) : He.AlD := (((fa.all fun f => f.ok K) && fn.all fun d => d.ok K) && (ksysB K && xb K), fn.map fun d => He.fnW K d.at_)
def SaysX (xb : PySem.W.Frag → Bool) (fa : List He.Fa) (fn : List He.DefD) (K : PySem.W.Frag) : Prop := obsX xb fa fn K = He.valD fn
def obsXG (n : Nat) (xb : PySem.W.Frag → Bool) (fa : List He.Fa) (fn : List He.DefD) (g : Addr → Option Obj) : He.AlD := obsX xb fa fn (He.frG g (He.asD g n ++ [sysModules]))
def hookX (n : Nat) (xb : PySem.W.Frag → Bool) (fa : List He.Fa) (fn : List He.DefD) : PySem.W.Hook where
  α := He.AlD
  obs := fun s => obsXG n xb fa fn s.heap.get?
  val := fun _ => He.valD fn
  says := fun _ h => ∃ K : PySem.W.Frag, K.In h ∧ SaysX xb fa fn K
  of := fun _ _ e => ⟨_, He.frG_in, e⟩
  keeps := fun _ _ _ ⟨K, hK, c⟩ k => ⟨K, PySem.W.Frag.In.keeps hK k, c⟩
theorem obsXG_eq {n : Nat} {xb : PySem.W.Frag → Bool} {fa : List He.Fa} {fn : List He.DefD} {g : Addr → Option Obj} {s : Shared} (h : ∀ a, g a = s.heap.get? a) : obsXG n xb fa fn g = (hookX n xb fa fn).obs s := by
  rw [show g = s.heap.get? from funext h]
  rfl
section
variable {xb : PySem.W.Frag → Bool} {fa : List He.Fa} {fn : List He.DefD} {K : PySem.W.Frag}
theorem SaysX.base (c : SaysX xb fa fn K) : He.SaysD fa fn K ∧ ksysB K = true ∧ xb K = true := by
  have c1 := show (((fa.all fun f => f.ok K) && fn.all fun d => d.ok K) && (ksysB K && xb K)) = true from congrArg (fun z : He.AlD => z.1) c
  have c2 := show (fn.map fun d => He.fnW K d.at_) = fn.map He.DefD.val from congrArg (fun z : He.AlD => z.2) c
  obtain ⟨h1, h2⟩ := He.ba c1
  obtain ⟨h3, h4⟩ := He.ba h2
  exact ⟨Prod.ext h1 c2, h3, h4⟩
end
end GX

set_option Elab.async false
set_option linter.all false
set_option maxRecDepth 100000
set_option maxHeartbeats 4000000
namespace K00
open PySem PySem.Spec PyProof.Rows L2 GX
def top (i : Nat) : Stmt := PySem.Challenge.pw_dialsums_k00_errors_keep_their_values.main.body.getD i (.Pass ⟨0, 0, 0, 0⟩)
abbrev FnP (K : PySem.W.Frag) (x : Str) (st : Stmt) (f : Addr) (fd : FuncData) : Prop := FunD K x x (defArgs st) (defBody st) (defScope st) [] [] f fd

theorem pick5 {i : Int} (h1 : 0 ≤ i) (h2 : i < 5) : ∃ q : Int, atI [V.int 2147483647, V.int 2147483629, V.int 2147483587, V.int 2147483579, V.int 2147483563] i = some (.int q) ∧ 2 ≤ q ∧ q < 2147483648 := by
  have h : i = 0 ∨ i = 1 ∨ i = 2 ∨ i = 3 ∨ i = 4 := by omega
  rcases h with rfl | rfl | rfl | rfl | rfl <;> exact ⟨_, rfl, by decide, by decide⟩
section
variable {P : Program} {w : World} {K : PySem.W.Frag} {mg : Str → Option Value} {base : Heap} {f : Addr} {fd : FuncData}
/-! ### a draw -/
abbrev s_take : Stmt := top 44
abbrev N_take : List Str := ["_law_pot_here", "_law_upto", "_law_digit", "_law_prime", "_law_blend"]
abbrev p_take : List Str := ["_law_pot_here", "_law_upto"]
theorem sc_take : FnScope N_take p_take (defScope s_take) := ⟨rfl, rfl, rfl, by decide +kernel, rfl, by decide +kernel, by decide +kernel⟩
theorem ok_take (F : FnP K "_law_take" s_take f fd) (nb : NB mg) : FnG P w K mg base CX0 1 f fd p_take spTake := by
  refine fnG0 F sc_take (fun vs H Q E h => ?_) (fun cdv A outer s H vs Q E hr h => ?_)
  · obtain ⟨p, n, c, o, rfl, _⟩ := h
    rfl
  · obtain ⟨p, n, c, o, rfl, hp, ⟨own, seed, cnt, rfl, h1, h2, h3, h4, h5⟩, hc, hn1, hn2, k⟩ := h
    refine ⟨_, (pss_cons (ps_if (pt_cmpR (op_gt) (pe_ix ix_seq (pv 0) pe_int (fun _ _ => rfl)) pe_int (nomark _)) (pss_cons (ps_set (i := 2) sc_take.nd rfl (Or.inl rfl) (pe_op op_mod (pe_callTy (call_int1) rfl nb.int bt_int (pa_cons (pe_ix ix_seq (pv 0) pe_int (fun _ _ => rfl)) pa_nil)) (pv 1)))
  (pss_cons (ps_asg (pe_op op_fdivW (pe_ix ix_seq (pv 0) pe_int (fun _ _ => rfl)) (pv 1)) (pg_sub (pv 0) pe_int set_list))
  (pss_one (ps_ret (pv 2))))) pss_nil)
  (pss_cons (ps_asg (pe_op op_addA (pe_ix ix_seq (pv 0) pe_int (fun _ _ => rfl)) pe_int) (pg_sub (pv 0) pe_int set_list))
  (pss_cons (ps_set (i := 3) sc_take.nd rfl (Or.inl rfl) (pe_ix ix_seq (pe_lst (pa_cons pe_int (pa_cons pe_int (pa_cons pe_int (pa_cons pe_int (pa_cons pe_int pa_nil)))))) (pe_op op_mod (pe_callTy (call_int1) rfl nb.int bt_int (pa_cons (pe_ix ix_seq (pv 0) pe_int (fun _ _ => rfl)) pa_nil)) pe_int) (fun _ _ => rfl)))
  (pss_cons (ps_set (i := 4) sc_take.nd rfl (Or.inl rfl) (pe_op op_mod (pe_callTy (call_int1) rfl nb.int bt_int (pa_cons (pe_op op_powA (pe_callTy (call_int1) rfl nb.int bt_int (pa_cons (pe_op op_addA (pe_op op_addA (pe_ix ix_seq (pv 0) pe_int (fun _ _ => rfl)) (pe_op op_mulW (pe_op op_mulW pe_int (pe_ix ix_seq (pv 0) pe_int (fun _ _ => rfl))) (pe_ix ix_seq (pv 0) pe_int (fun _ _ => rfl)))) pe_int) pa_nil)) pe_int) pa_nil)) (pv 3)))
  (pss_one (ps_ret (pe_op op_mod (pe_callTy (call_int1) rfl nb.int bt_int (pa_cons (pe_op op_fdivW (pe_op op_mulW (pv 4) (pe_op op_addA (pe_op op_mod (pe_callTy (call_int1) rfl nb.int bt_int (pa_cons (pv 4) pa_nil)) pe_int) (pe_op op_mulW pe_int (pe_ix ix_seq (pv 0) pe_int (fun _ _ => rfl))))) pe_int) pa_nil)) (pv 1)))))))), ?_⟩
    have hq : SqL K H p [.int own, .int seed, .int cnt] := SqL.of hp
    refine ⟨_, rfl, .inl ⟨p, _, 0, .int own, rfl, rfl, hq, rfl, ?_⟩⟩
    refine ⟨_, _, rfl, rfl, _, rfl, ite2 (fun c0 => ?_) (fun c0 => ?_)⟩
    · have c1 : 0 < own := of_decide_eq_true c0
      refine ⟨_, rfl, .inl ⟨p, _, 0, .int own, rfl, rfl, hq, rfl, .inl ⟨_, rfl, _, rfl, _, _, rfl, rfl, (by omega), ?_⟩⟩⟩
      refine ⟨_, rfl, .inl ⟨p, _, 0, .int own, rfl, rfl, hq, rfl, _, rfl, _, _, rfl, rfl, cdiv64 (by omega) (by omega), ?_⟩⟩
      refine ⟨_, rfl, p, _, 0, 0, rfl, rfl, hp, rfl, ?_⟩
      refine ⟨_, rfl, k _ _ _ (Bt.upd (Bt.refl p H)) upd_same ⟨_, seed, cnt, rfl, ?_, h2, h3, h4, by omega⟩ (Int.emod_nonneg _ (by omega)) (Int.emod_lt_of_pos _ (by omega))⟩
      exact Int.ediv_nonneg h1 (by omega)
    · have c1 : ¬ 0 < own := fun z => c0 (decide_eq_true z)
      refine ⟨_, rfl, .inl ⟨p, _, 2, .int cnt, rfl, rfl, hq, rfl, .inl ⟨_, _, rfl, rfl, ?_⟩⟩⟩
      refine ⟨_, rfl, p, _, 2, 2, rfl, rfl, hp, rfl, ?_⟩
      have hp1 : upd H p (.lst [.int own, .int seed, .int (cnt + 1)]) p = some (.lst [.int own, .int seed, .int (cnt + 1)]) := upd_same
      have m5 := Int.emod_nonneg (cnt + 1) (show (5 : Int) ≠ 0 by decide)
      obtain ⟨q, hq5, q1, q2⟩ := pick5 m5 (Int.emod_lt_of_pos (cnt + 1) (by decide))
      refine ⟨by show 5 ≤ sizeLine; decide, fun l hl => ?_⟩
      have nl : p ≠ l := ne_of_none hp1 hl
      have hq2 : SqL K (upd (upd H p (.lst [.int own, .int seed, .int (cnt + 1)])) l (.lst [.int 2147483647, .int 2147483629, .int 2147483587, .int 2147483579, .int 2147483563])) p [.int own, .int seed, .int (cnt + 1)] := SqL.of (by rw [upd_ne nl]; exact hp1)
      refine ⟨_, rfl, .inl ⟨p, _, 2, .int (cnt + 1), rfl, rfl, hq2, rfl, .inl ⟨_, rfl, _, _, rfl, rfl, (by show (0 : Int) < 5; decide), .inl ⟨l, _, _, _, rfl, rfl, SqL.of upd_same, hq5, ?_⟩⟩⟩⟩
      have sq := sq_le (a := 91019) (c := cnt + 1) (n := 90001) (by decide) (by omega) (by omega)
      have sq1 : 91019 * (cnt + 1) ≤ 91019 * 90001 := by omega
      refine ⟨_, rfl, .inl ⟨p, _, 1, .int seed, rfl, rfl, hq2, rfl, ?_⟩⟩
      refine ⟨_, rfl, .inl ⟨p, _, 2, .int (cnt + 1), rfl, rfl, hq2, rfl, _, _, rfl, rfl, cmul64 (by decide) (by decide) (by omega) (by omega), ?_⟩⟩
      refine ⟨_, rfl, .inl ⟨p, _, 2, .int (cnt + 1), rfl, rfl, hq2, rfl, _, _, rfl, rfl, cmul64 (by omega) (by omega) (by omega) (by omega), .inl ⟨_, _, rfl, rfl, ?_⟩⟩⟩
      refine .inl ⟨_, _, rfl, rfl, .inl ⟨_, rfl, .inl ⟨_, _, rfl, rfl, ⟨by decide, by decide, by omega⟩, .inl ⟨_, rfl, _, rfl, _, _, rfl, rfl, (by omega), ?_⟩⟩⟩⟩
      generalize hb : (seed + 91019 * (cnt + 1) * (cnt + 1) + 69) ^ (3 : Int).toNat % q = b
      have b1 : 0 ≤ b := by rw [← hb]; exact Int.emod_nonneg _ (by omega)
      have b2 : b < q := by rw [← hb]; exact Int.emod_lt_of_pos _ (by omega)
      have t1 := Int.emod_nonneg b (show (10007 : Int) ≠ 0 by decide)
      have t2 := Int.emod_lt_of_pos b (show (0 : Int) < 10007 by decide)
      refine ⟨_, rfl, _, rfl, .inl ⟨_, rfl, _, _, rfl, rfl, (by show (0 : Int) < 10007; decide), ?_⟩⟩
      refine ⟨_, rfl, .inl ⟨p, _, 2, .int (cnt + 1), rfl, rfl, hq2, rfl, _, _, rfl, rfl, cmul64 (by decide) (by decide) (by omega) (by omega), .inl ⟨_, _, rfl, rfl, ?_⟩⟩⟩
      refine ⟨_, _, rfl, rfl, cmul64 (by omega) (by omega) (by omega) (by omega), _, _, rfl, rfl, cdiv64 (by decide) (by decide), .inl ⟨_, rfl, _, rfl, _, _, rfl, rfl, (by omega), ?_⟩⟩
      exact k _ _ _ (Bt.trans (Bt.upd (Bt.refl p H)) (Same.bt (Same.new hl))) (Eq.trans (upd_ne nl) hp1) ⟨own, seed, _, rfl, h1, h2, h3, by omega, by omega⟩ (Int.emod_nonneg _ (by omega)) (Int.emod_lt_of_pos _ (by omega))
/-! ### one of some -/
abbrev s_of : Stmt := top 45
abbrev N_of : List Str := ["_law_pot_here", "_law_some"]
abbrev p_of : List Str := ["_law_pot_here", "_law_some"]
theorem sc_of : FnScope N_of p_of (defScope s_of) := ⟨rfl, rfl, rfl, by decide +kernel, rfl, by decide +kernel, by decide +kernel⟩
theorem ok_of (F : FnP K "_law_of" s_of f fd) (nb : NB mg) (c__law_take : CalG P w K mg base CX0 1 "_law_take" spTake) : FnG P w K mg base CX0 2 f fd p_of (spOf K) := by
  refine fnG0 F sc_of (fun vs H Q E h => ?_) (fun cdv A outer s H vs Q E hr h => ?_)
  · obtain ⟨p, l, c, o, xs, rfl, _⟩ := h
    rfl
  · obtain ⟨p, l, c, o, xs, rfl, hp, po, hc, nl, hl, n1, n2, k⟩ := h
    refine ⟨_, (pss_one (ps_ret (pe_ix ix_seq (pv 1) (pe_cG c__law_take hr (by omega) pass0 (pa_cons (pv 0) (pa_cons (pe_callB (call_len) rfl nb.len bt_len (pa_cons (pv 1) pa_nil)) pa_nil))) (fun _ _ => rfl)))), ?_⟩
    refine ⟨_, rfl, _, rfl, _, rfl, _, xs.length, rfl, ?_, p, _, c, o, rfl, hp, po, hc, by omega, by omega, fun H' o' i b hp' po' i0 i1 => ?_⟩
    · rcases hl with hl | hl
      · exact .inl ⟨xs, hl, rfl⟩
      · exact .inr ⟨xs, hl, rfl⟩
    obtain ⟨j, rfl⟩ := Int.eq_ofNat_of_zero_le i0
    have hj : j < xs.length := by omega
    have e : xs[j]? = some xs[j] := List.getElem?_eq_getElem hj
    have q := k H' o' xs[j] b hp' po' (List.getElem_mem hj)
    rcases hl with hl | hl
    · exact .inl ⟨l, xs, _, _, rfl, rfl, b.sqL nl hl, atI_nat e, q⟩
    · exact .inr (.inl ⟨l, xs, _, _, rfl, rfl, b.sqT nl hl, atI_nat e, q⟩)
/-! ### which cells -/
abbrev s_places : Stmt := top 46
abbrev N_places : List Str := ["_law_script", "_law_most"]
abbrev p_places : List Str := ["_law_script", "_law_most"]
theorem sc_places : FnScope N_places p_places (defScope s_places) := ⟨rfl, rfl, rfl, by decide +kernel, rfl, by decide +kernel, by decide +kernel⟩
theorem ok_places (F : FnP K "_law_places" s_places f fd) (nb : NB mg) : FnG P w K mg base CX0 1 f fd p_places (spPlaces K) := by
  refine fnG0 F sc_places (fun vs H Q E h => ?_) (fun cdv A outer s H vs Q E hr h => ?_)
  · obtain ⟨a, ns, m, rfl, _⟩ := h
    rfl
  · obtain ⟨a, ns, m, rfl, hS, m1, m2, k⟩ := h
    refine ⟨_, (pss_one (ps_ret (pe_listRg rfl rfl nb.list (prg_1 rfl nb.range (pe_callB (call_max2 rfl) rfl nb.max bt_max (pa_cons pe_int (pa_cons (pe_callB (call_min2 rfl) rfl nb.min bt_min (pa_cons (pv 1) (pa_cons (pe_callB (call_len) rfl nb.len bt_len (pa_cons (pv 0) pa_nil)) pa_nil))) pa_nil))))))), ?_⟩
    refine ⟨_, rfl, _, rfl, _, (ns.map V.int).length, rfl, .inl ⟨_, hS, rfl⟩, _, _, rfl, _, _, rfl, _, rfl, ?_⟩
    refine ⟨.of_le (Int.le_refl 0) (by show (if _ > (1 : Int) then _ else _) ≤ _; split <;> split <;> omega) (by decide) (by show 0 ≤ (if _ > (1 : Int) then _ else _); split <;> split <;> omega), fun l hl => k l _ hl (by show 1 ≤ (if _ > (1 : Int) then _ else _); split <;> split <;> omega) (by show (if _ > (1 : Int) then _ else _) ≤ _; split <;> split <;> omega)⟩
/-! ### a pot -/
abbrev s_pot : Stmt := top 43
abbrev N_pot : List Str := ["_law_script", "_law_k", "_law_cell", "_law_own", "_law_small"]
abbrev p_pot : List Str := ["_law_script", "_law_k"]
theorem sc_pot : FnScope N_pot p_pot (defScope s_pot) := ⟨rfl, rfl, rfl, by decide +kernel, rfl, by decide +kernel, by decide +kernel⟩
theorem ok_pot (F : FnP K "_law_pot" s_pot f fd) (nb : NB mg) : FnG P w K mg base CX0 1 f fd p_pot (spPot K) := by
  refine fnG0 F sc_pot (fun vs H Q E h => ?_) (fun cdv A outer s H vs Q E hr h => ?_)
  · obtain ⟨a, ns, k, rfl, _⟩ := h
    rfl
  · obtain ⟨a, ns, j, rfl, hS, j1, j2, k⟩ := h
    refine ⟨_, (pss_cons (ps_set (i := 2) sc_pot.nd rfl (Or.inl rfl) (pe_cut (pe_ifExp (pt_cmpR (op_lt) (pv 1) (pe_callB (call_len) rfl nb.len bt_len (pa_cons (pv 0) pa_nil)) (nomark _)) (pe_ix ix_seq (pv 0) (pv 1) (fun _ _ => rfl)) (pe_op op_addA (pe_op op_mulW pe_int (pv 1)) pe_int))))
  (pss_cons (ps_set (i := 3) sc_pot.nd rfl (Or.inl rfl) (pe_op op_mulW (pe_op op_mod (pe_callTy (call_int1) rfl nb.int bt_int (pa_cons (pe_callB (call_abs) rfl nb.abs bt_abs (pa_cons (pv 2) pa_nil)) pa_nil)) (pe_op op_powA (pe_op op_powA pe_int pe_int) pe_int)) (pe_callTy (call_int1) rfl nb.int bt_int (pa_cons (pe_cmpR (op_ge) (pe_callB (call_abs) rfl nb.abs bt_abs (pa_cons (pv 2) pa_nil)) (pe_op op_powA pe_int pe_int) (nomark _)) pa_nil))))
  (pss_cons (ps_set (i := 4) sc_pot.nd rfl (Or.inl rfl) (pe_op op_mod (pe_callTy (call_int1) rfl nb.int bt_int (pa_cons (pv 2) pa_nil)) pe_int))
  (pss_one (ps_ret (pe_lst (pa_cons (pv 3) (pa_cons (pe_op op_mod (pe_callTy (call_int1) rfl nb.int bt_int (pa_cons (pe_op op_addA (pe_op op_addA (pe_op op_mulW (pv 4) pe_int) (pe_op op_mulW (pe_op op_mulW pe_int (pv 1)) (pv 1))) pe_int) pa_nil)) pe_int) (pa_cons pe_int pa_nil))))))))), ?_⟩
    refine ⟨fun v H' => H' = H ∧ ∃ c : Int, v = .int c, ?_, ?_⟩
    · refine ⟨_, rfl, _, rfl, _, (ns.map V.int).length, rfl, .inl ⟨_, hS, rfl⟩, _, _, rfl, rfl, _, rfl, ite2 (fun c0 => ?_) (fun c0 => ?_)⟩
      · have c1 : j < ((ns.map V.int).length : Int) := of_decide_eq_true c0
        obtain ⟨i, rfl⟩ := Int.eq_ofNat_of_zero_le j1
        have hi : i < ns.length := by
          rw [List.length_map] at c1
          omega
        have e : (ns.map V.int)[i]? = some (.int ns[i]) := by simp [hi]
        exact ⟨_, rfl, _, rfl, .inl ⟨a, _, _, _, rfl, rfl, hS, atI_nat e, rfl, _, rfl⟩⟩
      · exact ⟨_, rfl, _, _, rfl, rfl, cmul64 (by decide) (by decide) (by omega) (by omega), .inl ⟨_, _, rfl, rfl, rfl, _, rfl⟩⟩
    · rintro _ _ ⟨rfl, c, rfl⟩
      refine ⟨_, rfl, _, rfl, .inl ⟨_, rfl, ?_⟩⟩
      refine .inl ⟨_, _, rfl, rfl, ⟨by decide, by decide, by decide⟩, .inr ⟨rfl, rfl, ?_⟩⟩
      refine ⟨_, _, rfl, rfl, Int.pow_pos (by decide), ?_⟩
      refine ⟨_, rfl, _, rfl, .inl ⟨_, _, rfl, rfl, ⟨by decide, by decide, by decide⟩, _, _, rfl, rfl, .inr ⟨_, rfl, ?_⟩⟩⟩
      have p300 : (0 : Int) < 10 ^ 300 := Int.pow_pos (by decide)
      have hm := log2_mod300 (if c < 0 then -c else c)
      have hm0 := Int.emod_nonneg (if c < 0 then -c else c) (Int.ne_of_gt p300)
      generalize decide ((10 : Int) ^ (18 : Int).toNat ≤ if c < 0 then -c else c) = far
      have hfar : ∃ z : Int, (if far = true then (1 : Int) else 0) = z ∧ 0 ≤ z ∧ z ≤ 1 := ⟨_, rfl, by split <;> decide, by split <;> decide⟩
      obtain ⟨z, hz, z0, z1⟩ := hfar
      rw [hz]
      have hz64 := log2_lt64 (i := z) (by omega) (by omega)
      refine ⟨_, _, rfl, rfl, (by show _ + _ < 1000000; omega), ?_⟩
      refine ⟨_, rfl, .inl ⟨_, rfl, _, _, rfl, rfl, (by show (0 : Int) < 2305843009213693951; decide), ?_⟩⟩
      have s0 := Int.emod_nonneg c (show (2305843009213693951 : Int) ≠ 0 by decide)
      have s1 := Int.emod_lt_of_pos c (show (0 : Int) < 2305843009213693951 by decide)
      have sq := sq_le (a := 8219) (c := j) (n := 1000) (by decide) j1 j2
      refine ⟨_, rfl, _, rfl, _, _, rfl, rfl, cmul64 (by omega) (by omega) (by decide) (by decide), ?_⟩
      refine ⟨_, rfl, _, _, rfl, rfl, cmul64 (by decide) (by decide) (by omega) (by omega), _, rfl, _, _, rfl, rfl, cmul64 (by omega) (by omega) (by omega) (by omega), .inl ⟨_, _, rfl, rfl, .inl ⟨_, _, rfl, rfl, .inl ⟨_, rfl, ?_⟩⟩⟩⟩
      refine ⟨_, _, rfl, rfl, (by show (0 : Int) < 2305843009213693921; decide), (by show 3 ≤ sizeLine; decide), fun p hp => k p _ hp ⟨_, _, _, rfl, Int.mul_nonneg hm0 z0, Int.emod_nonneg _ (show (2305843009213693921 : Int) ≠ 0 by decide), ?_, Int.le_refl 0, Int.le_refl 0⟩⟩
      exact Int.lt_trans (b := 2305843009213693921) (Int.emod_lt_of_pos _ (by decide)) (by decide)
end
end K00

set_option Elab.async false
set_option linter.all false
set_option maxRecDepth 100000
set_option maxHeartbeats 4000000
namespace K00
open PySem PySem.Spec PyProof.Rows L2 GX
section
variable {P : Program} {w : World} {K : PySem.W.Frag} {mg : Str → Option Value} {base : Heap} {f : Addr} {fd : FuncData}
/-! ### a value of any kind -/
abbrev s_odd : Stmt := top 47
abbrev N_odd : List Str := ["_law_pot_here", "_law_some"]
abbrev p_odd : List Str := ["_law_pot_here"]
theorem sc_odd : FnScope N_odd p_odd (defScope s_odd) := ⟨rfl, rfl, rfl, by decide +kernel, rfl, by decide +kernel, by decide +kernel⟩
def odd1 : List PyData := [.none, .bool true, .bool false, .int 0, .int 1, .int (-1), .int 2, .int 7, .str "", .str "x", .str "0", .str "ann", .tuple [], .list [], .dict [], .tuple [.int 0], .tuple [.tuple []], .list [.int 0], .tuple [.str "x", .int 1], .dict [(.str "x", .int 1)]]
def odd2 : List PyData := [.tuple [.tuple [.str "x", .int 1]], .tuple [.tuple [.tuple [.str "x", .int 1]], .int 0], .str "2 x", .tuple [.str "ann"], .tuple [.none], .int 100000000, .str "A", .tuple [.bool true]]
theorem odd_small : (odd1 ++ odd2).all (gdB 40 3) = true := by decide +kernel
theorem ok_odd (F : FnP K "_law_odd" s_odd f fd) (nb : NB mg) (c__law_of : CalG P w K mg base CX0 2 "_law_of" (spOf K)) : FnG P w K mg base CX0 3 f fd p_odd spOdd := by
  refine fnG0 F sc_odd (fun vs H Q E h => ?_) (fun cdv A outer s H vs Q E hr h => ?_)
  · obtain ⟨p, c, o, rfl, _⟩ := h
    rfl
  · obtain ⟨p, c, o, rfl, hp, po, hc, k⟩ := h
    refine ⟨_, (pss_cons (ps_set (i := 1) sc_odd.nd rfl (Or.inl rfl) (pe_lst (pa_dt (pa_cons pe_non (pa_cons pe_bl (pa_cons pe_bl (pa_cons pe_int (pa_cons pe_int (pa_cons (pe_un un_neg pe_int) (pa_cons pe_int (pa_cons pe_int (pa_cons pe_str (pa_cons pe_str (pa_cons pe_str (pa_cons pe_str (pa_cons (pe_tup pa_nil) (pa_cons (pe_fz (pe_lst pa_nil)) (pa_cons (pe_fz pe_dnewK) (pa_cons (pe_tup (pa_cons pe_int pa_nil)) (pa_cons (pe_tup (pa_cons (pe_tup pa_nil) pa_nil)) (pa_cons (pe_fz (pe_lst (pa_cons pe_int pa_nil))) (pa_cons (pe_tup (pa_cons pe_str (pa_cons pe_int pa_nil))) (pa_cons (pe_fz (pe_disp (pps_cons pe_str pe_int pps_nil) rfl rfl (by simp) (by decide))) pa_nil)))))))))))))))))))) (fun _ _ => (ev_cons ev_non (ev_cons ev_bl (ev_cons ev_bl (ev_cons ev_int (ev_cons ev_int (ev_cons ev_neg (ev_cons ev_int (ev_cons ev_int (ev_cons ev_str (ev_cons ev_str (ev_cons ev_str (ev_cons ev_str (ev_cons (ev_tup ev_nil) (ev_cons (ev_fzl ev_nil) (ev_cons ev_fd0 (ev_cons (ev_tup (ev_cons ev_int ev_nil)) (ev_cons (ev_tup (ev_cons (ev_tup ev_nil) ev_nil)) (ev_cons (ev_fzl (ev_cons ev_int ev_nil)) (ev_cons (ev_tup (ev_cons ev_str (ev_cons ev_int ev_nil))) (ev_cons (ev_fd1 ev_int) ev_nil))))))))))))))))))))))))
  (pss_one (ps_ret (pe_cG c__law_of hr (by omega) pass0 (pa_cons (pv 0) (pa_cons (pe_op op_addA (pv 1) (pe_lst (pa_dt (pa_cons (pe_tup (pa_cons (pe_tup (pa_cons pe_str (pa_cons pe_int pa_nil))) pa_nil)) (pa_cons (pe_tup (pa_cons (pe_tup (pa_cons (pe_tup (pa_cons pe_str (pa_cons pe_int pa_nil))) pa_nil)) (pa_cons pe_int pa_nil))) (pa_cons pe_str (pa_cons (pe_tup (pa_cons pe_str pa_nil)) (pa_cons (pe_tup (pa_cons pe_non pa_nil)) (pa_cons (pe_op op_powA pe_int pe_int) (pa_cons pe_str (pa_cons (pe_tup (pa_cons pe_bl pa_nil)) pa_nil)))))))) (fun _ _ => (ev_cons (ev_tup (ev_cons (ev_tup (ev_cons ev_str (ev_cons ev_int ev_nil))) ev_nil)) (ev_cons (ev_tup (ev_cons (ev_tup (ev_cons (ev_tup (ev_cons ev_str (ev_cons ev_int ev_nil))) ev_nil)) (ev_cons ev_int ev_nil))) (ev_cons ev_str (ev_cons (ev_tup (ev_cons ev_str ev_nil)) (ev_cons (ev_tup (ev_cons ev_non ev_nil)) (ev_cons ev_pow8 (ev_cons ev_str (ev_cons (ev_tup (ev_cons ev_bl ev_nil)) ev_nil)))))))))))) pa_nil)))))), ?_⟩
    refine fun vs1 H1 s1 d1 => ⟨by rw [d1.len]; decide, fun l1 f1 => ?_⟩
    refine ⟨_, rfl, _, rfl, fun vs2 H2 s2 d2 => ⟨by rw [d2.len]; decide, fun l2 f2 => ?_⟩⟩
    have e1 : H2 l1 = some (.lst vs1) := s2 _ _ upd_same
    have n12 := ne_of_none e1 f2
    refine .inr (.inr (.inl ⟨l1, l2, vs1, vs2, rfl, rfl, by rw [upd_ne n12]; exact e1, upd_same, by rw [d1.len, d2.len]; decide, fun l3 f3 => ?_⟩))
    have sm : Same H (upd (upd H2 l2 (.lst vs2)) l3 (.lst (vs1 ++ vs2))) := Same.tr (Same.tr (Same.tr s1 (Same.new f1)) (Same.tr s2 (Same.new f2))) (Same.new f3)
    have s3 : Same H2 (upd (upd H2 l2 (.lst vs2)) l3 (.lst (vs1 ++ vs2))) := Same.tr (Same.new f2) (Same.new f3)
    have dd := ((d1.sm (Same.new f1)).sm (Same.tr s2 s3)).app (d2.sm s3)
    have hp3 := sm _ _ hp
    have n3 : l3 ≠ p := fun z => by
      subst z
      exact ne_of_none (Same.tr (Same.tr s1 (Same.new f1)) (Same.tr s2 (Same.new f2)) _ _ hp) f3 rfl
    refine ⟨p, l3, c, o, vs1 ++ vs2, rfl, hp3, po, hc, n3, .inl (SqL.of upd_same), by rw [dd.len]; decide, by rw [dd.len]; decide, fun H' o' v b hp' po' hv => ?_⟩
    obtain ⟨d, hd, dv⟩ := dd.mem hv
    exact k H' o' v d (Bt.trans (Same.bt sm) b) hp' po' (D.mono (Per.mo (Bt.mo b hp3 po.imm)) dv) (gd_all odd_small d hd)
end
end K00

set_option Elab.async false
set_option linter.all false
set_option maxRecDepth 100000
set_option maxHeartbeats 4000000
namespace K00
open PySem PySem.Spec PyProof.Rows L2 GX
/-! ### a value, bent -/
def CTup (xs : List PyData) (σ : L2.St) (H : Hp) : Prop := VarD 1 (.tuple xs) σ H ∧ xs.length ≤ 10000
def dTup (xs : List PyData) : List PyData := [.list xs, .tuple (cutD xs (some 1) none), .tuple (cutD xs none (some (-1))), .tuple (xs ++ cutD xs (some (-1)) none), .tuple xs.reverse, .tuple [], .tuple (xs ++ [.int 0]), .none]
def CStr (x : Str) (σ : L2.St) (H : Hp) : Prop := VarD 1 (.str x) σ H ∧ x.length ≤ 10000
def dStr (x : Str) : List PyData := [.str (x ++ "x"), .str (cutS x none (some (-1))), .str (Txt.upper x), .str (x ++ " "), .list [.str x], .str "x", .str "zq", .none, .int 0]
def CBl (b : Bool) (σ : L2.St) (H : Hp) : Prop := VarD 1 (.bool b) σ H
def dBl (b : Bool) : List PyData := [.bool (!b), .int (if b = true then 1 else 0), .none]
def CInt (i : Int) (σ : L2.St) (H : Hp) : Prop := VarD 1 (.int i) σ H ∧ i.natAbs.log2 < 1920
def dInt (i : Int) : List PyData := [.int (i + 1), .int (i - 1), .bool (decide (V.int i = V.int 1)), .str (Str.ofString (toString i)), .int (-1), .int 5, .int 0, .int (-i), .none, .tuple [.int i]]
theorem len_cat {xs ys : List PyData} (h : xs.length ≤ 10000) (k : ys.length ≤ 10000) : xs.length + ys.length ≤ sizeLine := by rw [sizeLine_eq]; omega
theorem len_cut {xs : List PyData} {lo hi : Option Int} (h : xs.length ≤ 10000) : (cutD xs lo hi).length ≤ 10000 := Nat.le_trans (cutD_sub xs lo hi).length_le h
theorem len_line {n : Nat} (h : n ≤ 10000) : n ≤ sizeLine := by rw [sizeLine_eq]; omega
theorem len_catS {x y : Str} (h : x.length ≤ 10000) (k : y.length ≤ 10000) : x.length + y.length ≤ sizeLine := by rw [sizeLine_eq]; omega

theorem gd_dStr {n m : Nat} {x : Str} (g : Gd n m (.str x)) : ∀ d ∈ dStr x, Gd (2 * n + 60) (m + 3) d := by
  obtain ⟨h1, h2⟩ := gd_str' g
  have h3 := cutS_len x none (some (-1))
  have h4 := upper_asc h2
  have e1 : ("x" : Str).length = 1 := rfl
  have e2 : (" " : Str).length = 1 := rfl
  have e3 : ("zq" : Str).length = 2 := rfl
  intro d hd
  simp only [dStr, List.mem_cons, List.not_mem_nil, or_false] at hd
  rcases hd with rfl | rfl | rfl | rfl | rfl | rfl | rfl | rfl | rfl
  · exact gd_str (by rw [slen_app, e1]; omega) (ascT_app h2 (by decide +kernel))
  · exact gd_str (by omega) (ascT_cut h2)
  · exact gd_str (by rw [h4.2]; omega) h4.1
  · exact gd_str (by rw [slen_app, e2]; omega) (ascT_app h2 (by decide +kernel))
  · exact (GdA.lst (GdA.one (g.mono (Nat.le_refl _) (Nat.le_refl _)))).mono (by omega) (by omega)
  · exact gd_str (by rw [e1]; omega) (by decide +kernel)
  · exact gd_str (by rw [e3]; omega) (by decide +kernel)
  · exact gd_non (by omega)
  · exact gd_int (by show 0 + 4 ≤ _; omega)
theorem gd_dBl {n m : Nat} {b : Bool} : ∀ d ∈ dBl b, Gd (2 * n + 60) (m + 3) d := by
  intro d hd
  simp only [dBl, List.mem_cons, List.not_mem_nil, or_false] at hd
  rcases hd with rfl | rfl | rfl
  · exact gd_bl (by omega)
  · refine gd_int (Nat.le_trans (show _ ≤ 4 from ?_) (by omega))
    cases b <;> decide
  · exact gd_non (by omega)
theorem gd_dInt {n m : Nat} {i : Int} (g : Gd n m (.int i)) : ∀ d ∈ dInt i, Gd (2 * n + 60) (m + 3) d := by
  have h1 := gd_int' g
  have h2 := num_len i
  have h3 := log2_near (show (i + 1).natAbs ≤ i.natAbs + 1 by omega)
  have h4 := log2_near (show (i - 1).natAbs ≤ i.natAbs + 1 by omega)
  have h5 : (-i).natAbs = i.natAbs := Int.natAbs_neg i
  intro d hd
  simp only [dInt, List.mem_cons, List.not_mem_nil, or_false] at hd
  rcases hd with rfl | rfl | rfl | rfl | rfl | rfl | rfl | rfl | rfl | rfl
  · exact gd_int (by omega)
  · exact gd_int (by omega)
  · exact gd_bl (by omega)
  · exact gd_str (by omega) (ascT_num i)
  · exact gd_int (Nat.le_trans (show _ ≤ 8 by decide) (by omega))
  · exact gd_int (Nat.le_trans (show _ ≤ 8 by decide) (by omega))
  · exact gd_int (Nat.le_trans (show _ ≤ 8 by decide) (by omega))
  · exact gd_int (by rw [h5]; omega)
  · exact gd_non (by omega)
  · exact (GdA.tup (GdA.one (g.mono (Nat.le_refl _) (Nat.le_refl _)))).mono (by omega) (by omega)
theorem gd_dTup {n m : Nat} {xs : List PyData} (g : Gd n m (.tuple xs)) : ∀ d ∈ dTup xs, Gd (2 * n + 60) (m + 3) d := by
  obtain ⟨a, h1, h2⟩ := g.tupA
  have cut : ∀ lo hi, GdA (n - 3) (m - 1) (cutD xs lo hi) := fun lo hi => a.sub (cutD_sub xs lo hi)
  intro d hd
  simp only [dTup, List.mem_cons, List.not_mem_nil, or_false] at hd
  rcases hd with rfl | rfl | rfl | rfl | rfl | rfl | rfl | rfl
  · exact a.lst.mono (by omega) (by omega)
  · exact (cut _ _).tup.mono (by omega) (by omega)
  · exact (cut _ _).tup.mono (by omega) (by omega)
  · exact (a.app (cut _ _)).tup.mono (by omega) (by omega)
  · exact a.rev.tup.mono (by omega) (by omega)
  · exact (gdB_ok (n := 3) (m := 1) (by decide +kernel)).mono (by omega) (by omega)
  · exact (a.app ((GdA.one (gd_int (n := 8) (m := m - 1) (i := 0) (by decide))))).tup.mono (by omega) (by omega)
  · exact gd_non (by omega)

theorem canLay_get : ∀ {ds : List PyData} {i : Nat} {d : PyData}, PyData.canLayAll0 ds = true → ds[i]? = some d → d.canLay0 = true
  | [], i, _, _, e => by simp at e
  | x :: xs, 0, d, h, e => by
    simp only [PyData.canLayAll0, Bool.and_eq_true] at h
    simp only [List.getElem?_cons_zero, Option.some.injEq] at e
    rw [← e]
    exact h.1
  | x :: xs, i + 1, d, h, e => by
    simp only [PyData.canLayAll0, Bool.and_eq_true] at h
    exact canLay_get h.2 (by simpa using e)
theorem cutD_take {ds : List PyData} {j : Nat} (h : j ≤ ds.length) : cutD ds none (some (j : Int)) = ds.take j := by
  unfold GX.cutD
  rw [HT.sIx_none, HT.sIx_nat, List.drop_zero, Nat.sub_zero, Nat.min_eq_left h]
theorem cutD_drop {ds : List PyData} {j : Nat} : cutD ds (some ((j : Int) + 1)) none = ds.drop (j + 1) := by
  unfold GX.cutD
  have e : ((j : Int) + 1) = ((j + 1 : Nat) : Int) := rfl
  rw [HT.sIx_none, e, HT.sIx_nat]
  by_cases h : j + 1 ≤ ds.length
  · rw [Nat.min_eq_left h]
    exact List.take_of_length_le (by rw [List.length_drop]; exact Nat.le_refl _)
  · rw [Nat.min_eq_right (by omega), Nat.sub_self, List.take_zero]
    exact (List.drop_eq_nil_of_le (by omega)).symm

def spBent (m : Nat) : Sp := fun vs H Q _ => ∃ (p : Addr) (c : Nat) (o : HO) (v : V) (d : PyData) (n : Nat), vs = [.ref p, v] ∧ H p = some o ∧ PotO c o ∧ c + 2 * m + 2 ≤ 90000 ∧ D (Per H) v d ∧ n ≤ 900 ∧ Gd n m d ∧ d.canLay0 = true ∧
  ∀ H' o' v' d', Bt p H H' → H' p = some o' → PotO (c + 2 * m + 2) o' → D (Per H') v' d' → Gd (2 * n + 60) (m + 3) d' → Q v' H'
def spBentP : Nat → Sp
  | 0 => fun _ _ _ _ => False
  | m + 1 => spBent m
section
variable {P : Program} {w : World} {K : PySem.W.Frag} {mg : Str → Option Value} {base : Heap} {f : Addr} {fd : FuncData} {m : Nat}
abbrev s_bent : Stmt := top 48
abbrev N_bent : List Str := ["_law_pot_here", "_law_value", "_law_at", "_law_some"]
abbrev p_bent : List Str := ["_law_pot_here", "_law_value"]
theorem sc_bent : FnScope N_bent p_bent (defScope s_bent) := ⟨rfl, rfl, rfl, by decide +kernel, rfl, by decide +kernel, by decide +kernel⟩
theorem ok_bent0 (KS : KSys K) (hm : m ≤ 60) (F : FnP K "_law_bent" s_bent f fd) (nb : NB mg) (c__law_take : CalG P w K mg base CX0 1 "_law_take" spTake) (c__law_of : CalG P w K mg base CX0 2 "_law_of" (spOf K)) (c__law_odd : CalG P w K mg base CX0 3 "_law_odd" spOdd)
    (c__law_bent : CalG P w K mg base CX0 (m + 3) "_law_bent" (spBentP m)) : FnG P w K mg base CX0 (m + 4) f fd p_bent (spBent m) := by
  refine fnG0 F sc_bent (fun vs H Q E h => ?_) (fun cdv A outer s H vs Q E hr h => ?_)
  · obtain ⟨p, c, o, v, d, n, rfl, _⟩ := h
    rfl
  · obtain ⟨p, c, o, v, d, n, rfl, hp, po, hc, hv, hn, g, hlay, k⟩ := h
    refine ⟨_, (pss_cons (ps_if (pt_cut (PW.pt (pw_and (pt_val (pe_callB (call_isiA) rfl nb.isinstance bt_isinstance (pa_cons (pv 1) (pa_cons (pe_ty nb.tuple bt_tuple) pa_nil)))) (pw_and (pt_cmpR (op_neX KS hr.u64) (pv 1) (pe_tup pa_nil) (nomark _)) (pw_and1 (pt_cmpR (op_gt) (pe_cG c__law_take hr (by omega) pass0 (pa_cons (pv 0) (pa_cons pe_int pa_nil))) pe_int (nomark _))))))) (pss_cons (ps_set (i := 2) sc_bent.nd rfl (Or.inl rfl) (pe_cG c__law_take hr (by omega) pass0 (pa_cons (pv 0) (pa_cons (pe_callB (call_len) rfl nb.len bt_len (pa_cons (pv 1) pa_nil)) pa_nil))))
  (pss_one (ps_ret (pe_op op_addA (pe_op op_addA (pe_slice sl_X (pv 1) po_none (po_some (pv 2))) (pe_tup (pa_cons (pe_cG c__law_bent hr (by omega) pass0 (pa_cons (pv 0) (pa_cons (pe_ix ix_seq (pv 1) (pv 2) (fun _ _ => rfl)) pa_nil))) pa_nil))) (pe_slice sl_X (pv 1) (po_some (pe_op op_addA (pv 2) pe_int)) po_none))))) pss_nil)
  (pss_cons (ps_if (pt_val (pe_callB (call_isiA) rfl nb.isinstance bt_isinstance (pa_cons (pv 1) (pa_cons (pe_ty nb.tuple bt_tuple) pa_nil)))) (pss_cons (ps_set (i := 3) sc_bent.nd rfl (Or.inl rfl) (pe_lst (pa_dv (pa_cons (pe_fz (pe_callTy (call_list_of) rfl nb.list bt_list (pa_cons (pv 1) pa_nil))) (pa_cons (pe_slice sl_X (pv 1) (po_some pe_int) po_none) (pa_cons (pe_slice sl_X (pv 1) po_none (po_some (pe_un un_neg pe_int))) (pa_cons (pe_op op_addA (pv 1) (pe_slice sl_X (pv 1) (po_some (pe_un un_neg pe_int)) po_none)) (pa_cons (pe_revT (pv 1)) (pa_cons (pe_tup pa_nil) (pa_cons (pe_op op_addA (pv 1) (pe_tup (pa_cons pe_int pa_nil))) (pa_cons pe_non pa_nil)))))))) (C := CTup) (ds := dTup) (fun x σ H c => ev_cons (ev_lstT (ev_cons (ev_var c.1) ev_nil)) (ev_cons (ev_slT (ev_var c.1) eo_int eo_non) (ev_cons (ev_slT (ev_var c.1) eo_non eo_neg) (ev_cons (ev_catT (ev_var c.1) (ev_slT (ev_var c.1) eo_neg eo_non) (len_cat c.2 (len_cut c.2))) (ev_cons (ev_rev (ev_var c.1) (len_line c.2)) (ev_cons (ev_tup ev_nil) (ev_cons (ev_catT (ev_var c.1) (ev_tup (ev_cons ev_int ev_nil)) (len_cat c.2 (by decide))) (ev_cons ev_non ev_nil)))))))))))
  (pss_one (ps_ret (pe_cG c__law_of hr (by omega) pass0 (pa_cons (pv 0) (pa_cons (pv 3) pa_nil)))))) pss_nil)
  (pss_cons (ps_if (pt_val (pe_callB (call_isiA) rfl nb.isinstance bt_isinstance (pa_cons (pv 1) (pa_cons (pe_ty nb.str bt_str) pa_nil)))) (pss_one (ps_ret (pe_cG c__law_of hr (by omega) pass0 (pa_cons (pv 0) (pa_cons (pe_lst (pa_dv (pa_cons (pe_op op_addA (pv 1) pe_str) (pa_cons (pe_slice sl_X (pv 1) po_none (po_some (pe_un un_neg pe_int))) (pa_cons (pe_bm0 PySem.F.plainAttrs_str PySem.F.slot_str_upper PySem.F.type_str_upper mt_upper (pv 1)) (pa_cons (pe_op op_addA (pv 1) pe_str) (pa_cons (pe_fz (pe_lst (pa_cons (pv 1) pa_nil))) (pa_cons pe_str (pa_cons pe_str (pa_cons pe_non (pa_cons pe_int pa_nil))))))))) (C := CStr) (ds := dStr) (fun x σ H c => ev_cons (ev_catS (ev_var c.1) ev_str (len_catS c.2 (by decide))) (ev_cons (ev_slS (len_line c.2) (ev_var c.1) eo_non eo_neg) (ev_cons (ev_upper (ev_var c.1) (Nat.le_trans c.2 (by decide))) (ev_cons (ev_catS (ev_var c.1) ev_str (len_catS c.2 (by decide))) (ev_cons (ev_fzl (ev_cons (ev_var c.1) ev_nil)) (ev_cons ev_str (ev_cons ev_str (ev_cons ev_non (ev_cons ev_int ev_nil))))))))))) pa_nil))))) pss_nil)
  (pss_cons (ps_if (pt_val (pe_callB (call_isiA) rfl nb.isinstance bt_isinstance (pa_cons (pv 1) (pa_cons (pe_ty nb.bool bt_bool) pa_nil)))) (pss_one (ps_ret (pe_cG c__law_of hr (by omega) pass0 (pa_cons (pv 0) (pa_cons (pe_lst (pa_dv (pa_cons (pe_not (pv 1)) (pa_cons (pe_callTy (call_int1) rfl nb.int bt_int (pa_cons (pv 1) pa_nil)) (pa_cons pe_non pa_nil))) (C := CBl) (ds := dBl) (fun x σ H c => ev_cons (ev_not (ev_var c)) (ev_cons (ev_intB (ev_cons (ev_var c) ev_nil)) (ev_cons ev_non ev_nil))))) pa_nil))))) pss_nil)
  (pss_cons (ps_if (pt_val (pe_callB (call_isiA) rfl nb.isinstance bt_isinstance (pa_cons (pv 1) (pa_cons (pe_ty nb.int bt_int) pa_nil)))) (pss_one (ps_ret (pe_cG c__law_of hr (by omega) pass0 (pa_cons (pv 0) (pa_cons (pe_lst (pa_dv (pa_cons (pe_op op_addA (pv 1) pe_int) (pa_cons (pe_op op_sub (pv 1) pe_int) (pa_cons (pe_cmpR (op_eqA hr.u64) (pv 1) pe_int (nomark _)) (pa_cons (pe_callTy (call_str_int) rfl nb.str bt_str (pa_cons (pv 1) pa_nil)) (pa_cons (pe_un un_neg pe_int) (pa_cons pe_int (pa_cons pe_int (pa_cons (pe_un un_neg (pv 1)) (pa_cons pe_non (pa_cons (pe_tup (pa_cons (pv 1) pa_nil)) pa_nil)))))))))) (C := CInt) (ds := dInt) (fun x σ H c => ev_cons (ev_addI (ev_var c.1) ev_int) (ev_cons (ev_subI (ev_var c.1) ev_int) (ev_cons (ev_eqI (ev_var c.1) ev_int) (ev_cons (ev_strI (ev_cons (ev_var c.1) ev_nil) c.2) (ev_cons ev_neg (ev_cons ev_int (ev_cons ev_int (ev_cons (ev_negV (ev_var c.1)) (ev_cons ev_non (ev_cons (ev_tup (ev_cons (ev_var c.1) ev_nil)) ev_nil)))))))))))) pa_nil))))) pss_nil)
  (pss_one (ps_ret (pe_cG c__law_odd hr (by omega) pass0 (pa_cons (pv 0) pa_nil))))))))), ?_⟩
    have nt : ∀ {c : String} {b : Bool} {Q : VK}, PySem.W.kitOne K (.type (tyN d)) (.type c) = some b → Q (.bl b) H → rIsiA K [v, .ty c] H Q := fun e q => isi_dat hv e q
    cases hv with
    | non =>
      refine ⟨fun b H' => b = false ∧ H' = H, ⟨_, rfl, nt rfl ⟨_, rfl, ifF ⟨rfl, rfl⟩⟩⟩, ?_⟩
      rintro _ _ ⟨rfl, rfl⟩
      refine ifF ?_
      refine ⟨_, rfl, nt rfl ⟨_, rfl, ifF ⟨_, rfl, nt rfl ⟨_, rfl, ifF ⟨_, rfl, nt rfl ⟨_, rfl, ifF ⟨_, rfl, nt rfl ⟨_, rfl, ifF ?_⟩⟩⟩⟩⟩⟩⟩⟩
      exact ⟨_, rfl, p, c, o, rfl, hp, po, by omega, fun H' o' v' d' b hp' po' dv gg => k H' o' v' d' b hp' (po'.mono (by omega)) dv (gg.mono (by omega) (by omega))⟩
    | lst ha da =>
      refine ⟨fun b H' => b = false ∧ H' = H, ⟨_, rfl, nt rfl ⟨_, rfl, ifF ⟨rfl, rfl⟩⟩⟩, ?_⟩
      rintro _ _ ⟨rfl, rfl⟩
      refine ifF ?_
      refine ⟨_, rfl, nt rfl ⟨_, rfl, ifF ⟨_, rfl, nt rfl ⟨_, rfl, ifF ⟨_, rfl, nt rfl ⟨_, rfl, ifF ⟨_, rfl, nt rfl ⟨_, rfl, ifF ?_⟩⟩⟩⟩⟩⟩⟩⟩
      exact ⟨_, rfl, p, c, o, rfl, hp, po, by omega, fun H' o' v' d' b hp' po' dv gg => k H' o' v' d' b hp' (po'.mono (by omega)) dv (gg.mono (by omega) (by omega))⟩
    | dic ha da =>
      refine ⟨fun b H' => b = false ∧ H' = H, ⟨_, rfl, nt rfl ⟨_, rfl, ifF ⟨rfl, rfl⟩⟩⟩, ?_⟩
      rintro _ _ ⟨rfl, rfl⟩
      refine ifF ?_
      refine ⟨_, rfl, nt rfl ⟨_, rfl, ifF ⟨_, rfl, nt rfl ⟨_, rfl, ifF ⟨_, rfl, nt rfl ⟨_, rfl, ifF ⟨_, rfl, nt rfl ⟨_, rfl, ifF ?_⟩⟩⟩⟩⟩⟩⟩⟩
      exact ⟨_, rfl, p, c, o, rfl, hp, po, by omega, fun H' o' v' d' b hp' po' dv gg => k H' o' v' d' b hp' (po'.mono (by omega)) dv (gg.mono (by omega) (by omega))⟩
    | str x =>
      refine ⟨fun b H' => b = false ∧ H' = H, ⟨_, rfl, nt rfl ⟨_, rfl, ifF ⟨rfl, rfl⟩⟩⟩, ?_⟩
      rintro _ _ ⟨rfl, rfl⟩
      refine ifF ?_
      refine ⟨_, rfl, nt rfl ⟨_, rfl, ifF ⟨_, rfl, nt rfl ⟨_, rfl, ifT ?_⟩⟩⟩⟩
      refine ⟨_, rfl, x, ⟨⟨_, rfl, .str x⟩, by have := (gd_str' g).1; omega⟩, fun vs H1 s1 d1 => ⟨by rw [d1.len]; exact len_line (show 9 ≤ 10000 by decide), fun l f1 => ?_⟩⟩
      exact of_dat (E := E0) hp po (by omega) s1 f1 d1 (by show 1 ≤ 9; decide) (by show 9 ≤ 1000; decide) fun H' o' v' d' b hp' po' dv hd => k H' o' v' d' b hp' (po'.mono (by omega)) dv (gd_dStr g d' hd)
    | bl x =>
      refine ⟨fun b H' => b = false ∧ H' = H, ⟨_, rfl, nt rfl ⟨_, rfl, ifF ⟨rfl, rfl⟩⟩⟩, ?_⟩
      rintro _ _ ⟨rfl, rfl⟩
      refine ifF ?_
      refine ⟨_, rfl, nt rfl ⟨_, rfl, ifF ⟨_, rfl, nt rfl ⟨_, rfl, ifF ⟨_, rfl, nt rfl ⟨_, rfl, ifT ?_⟩⟩⟩⟩⟩⟩
      refine ⟨_, rfl, x, ⟨_, rfl, .bl x⟩, fun vs H1 s1 d1 => ⟨by rw [d1.len]; exact len_line (show 3 ≤ 10000 by decide), fun l f1 => ?_⟩⟩
      exact of_dat (E := E0) hp po (by omega) s1 f1 d1 (by show 1 ≤ 3; decide) (by show 3 ≤ 1000; decide) fun H' o' v' d' b hp' po' dv hd => k H' o' v' d' b hp' (po'.mono (by omega)) dv (gd_dBl d' hd)
    | int x =>
      refine ⟨fun b H' => b = false ∧ H' = H, ⟨_, rfl, nt rfl ⟨_, rfl, ifF ⟨rfl, rfl⟩⟩⟩, ?_⟩
      rintro _ _ ⟨rfl, rfl⟩
      refine ifF ?_
      refine ⟨_, rfl, nt rfl ⟨_, rfl, ifF ⟨_, rfl, nt rfl ⟨_, rfl, ifF ⟨_, rfl, nt rfl ⟨_, rfl, ifF ⟨_, rfl, nt rfl ⟨_, rfl, ifT ?_⟩⟩⟩⟩⟩⟩⟩⟩
      refine ⟨_, rfl, x, ⟨⟨_, rfl, .int x⟩, by have := gd_int' g; omega⟩, fun vs H1 s1 d1 => ⟨by rw [d1.len]; exact len_line (show 10 ≤ 10000 by decide), fun l f1 => ?_⟩⟩
      exact of_dat (E := E0) hp po (by omega) s1 f1 d1 (by show 1 ≤ 10; decide) (by show 10 ≤ 1000; decide) fun H' o' v' d' b hp' po' dv hd => k H' o' v' d' b hp' (po'.mono (by omega)) dv (gd_dInt g d' hd)
    | tup ha da =>
      rename_i a xs ds
      obtain ⟨ga, g1, g2⟩ := g.tupA
      have hlen := ga.len
      have hsq : SqT K H a xs := per_sqT ha
      have sh : SeqAt.shaped (.tuple ds) = true := by
        unfold SeqAt.shaped
        rw [hlay, decide_eq_true (Nat.le_trans g.dp (by omega))] <;> rfl
      have dv0 : D (Per H) (.ref a) (.tuple ds) := .tup ha da
      refine ⟨fun b H' => Bt p H H' ∧ (∃ o', H' p = some o' ∧ PotO (c + 1) o') ∧ (b = true → ds ≠ []), ?_, ?_⟩
      · refine ⟨_, rfl, nt rfl ⟨_, rfl, ifT ?_⟩⟩
        refine ⟨_, rfl, by show 0 ≤ sizeLine; decide, fun q fq => ?_⟩
        have sq := Same.new (o := .tup []) fq
        refine ⟨.tuple ds, .tuple [], (dv0.sm sq).now, D.now (.tup (.inl ⟨_, rfl, upd_same⟩) .nil), sh, by decide +kernel, ?_⟩
        refine ⟨_, rfl, ?_⟩
        cases ds with
        | nil => exact ifF ⟨Same.bt sq, ⟨o, sq _ _ hp, po.mono (by omega)⟩, fun z => nomatch z⟩
        | cons d0 dr =>
          refine ifT ⟨_, rfl, p, 6, c, o, rfl, sq _ _ hp, po, by omega, by decide, by decide, fun H2 o2 i b2 hp2 po2 i0 i1 => ?_⟩
          exact ⟨_, _, rfl, rfl, _, rfl, Bt.trans (Same.bt sq) b2, ⟨o2, hp2, po2⟩, fun _ z => nomatch z⟩
      · rintro b H1 ⟨b1, ⟨o1, hp1, po1⟩, hne⟩
        have m1 : Mo H H1 := Bt.mo b1 hp po.imm
        have dv1 : D (Per H1) (.ref a) (.tuple ds) := D.mono (Per.mo m1) dv0
        have nt1 : ∀ {c : String} {b : Bool} {Q : VK}, PySem.W.kitOne K (.type (tyN (.tuple ds))) (.type c) = some b → Q (.bl b) H1 → rIsiA K [.ref a, .ty c] H1 Q := fun e q => isi_dat dv1 e q
        have sq1 : SqT K H1 a xs := per_sqT (Per.mo m1 _ _ ha)
        cases b with
        | false =>
          refine ifF ⟨_, rfl, nt1 rfl ⟨_, rfl, ifT ?_⟩⟩
          refine ⟨ds, ⟨⟨_, rfl, dv1⟩, by omega⟩, fun vs H2 s2 d2 => ⟨by rw [d2.len]; exact len_line (show 8 ≤ 10000 by decide), fun l f2 => ?_⟩⟩
          refine ⟨_, rfl, ⟨_, rfl, ?_⟩⟩
          exact of_dat (E := E0) hp1 po1 (by omega) s2 f2 d2 (by show 1 ≤ 8; decide) (by show 8 ≤ 1000; decide) fun H' o' v' d' b hp' po' dv hd => k H' o' v' d' (Bt.trans b1 b) hp' (po'.mono (by omega)) dv (gd_dTup g d' hd)
        | true =>
          have hne := hne rfl
          have hl1 : 1 ≤ ds.length := by
            cases ds with
            | nil => exact absurd rfl hne
            | cons _ _ => exact Nat.succ_le_succ (Nat.zero_le _)
          have hxl := da.len
          refine ifT ⟨_, rfl, _, rfl, _, xs.length, rfl, ?_, p, _, c + 1, o1, rfl, hp1, po1, by omega, by omega, by omega, fun H2 o2 i b2 hp2 po2 i0 i1 => ?_⟩
          · exact .inr ⟨xs, sq1, rfl⟩
          obtain ⟨j, rfl⟩ := Int.eq_ofNat_of_zero_le i0
          have hj : j < ds.length := by omega
          have m2 : Mo H1 H2 := Bt.mo b2 hp1 po1.imm
          have dv2 := D.mono (Per.mo m2) dv1
          refine ⟨_, rfl, ⟨_, rfl, _, rfl, .inl (dat_cut dv2 fun v3 H3 s3 d3 => ?_)⟩⟩
          have dv3 := dv2.sm s3
          have hp3 := s3 _ _ hp2
          have sq3 : SqT K H3 a xs := per_sqT (Per.mo (Same.mo s3) _ _ (Per.mo m2 _ _ (Per.mo m1 _ _ ha)))
          have ei : xs[j]? = some xs[j] := List.getElem?_eq_getElem (by omega)
          obtain ⟨di, edi, ddi⟩ := DA.get da ei
          obtain ⟨gi, wi⟩ := ga.get edi
          have hli : di.canLay0 = true := canLay_get (by simpa only [PyData.canLay0] using hlay) edi
          obtain ⟨m', rfl⟩ : ∃ m', m = m' + 1 := ⟨m - 1, by omega⟩
          refine ⟨_, rfl, _, rfl, _, rfl, .inr (.inl ⟨a, xs, _, _, rfl, rfl, sq3, atI_nat ei, ?_⟩)⟩
          refine ⟨p, c + 2, o2, xs[j], di, wt di, rfl, hp3, po2, by omega, D.mono (Per.mo (Same.mo s3)) (D.mono (Per.mo m2) (D.mono (Per.mo m1) ddi)), by have := gi.w; omega, ⟨Nat.le_refl _, by have := gi.dp; omega, gi.as⟩, hli, fun H4 o4 v4 d4 b4 hp4 po4 dd4 g4 => ?_⟩
          have m4 : Mo H3 H4 := Bt.mo b4 hp3 po2.imm
          refine ⟨by show 1 ≤ sizeLine; decide, fun l5 f5 => ?_⟩
          have s5 := Same.new (o := .tup [v4]) f5
          refine .inr (.inr (.inr (dat_cat ((D.mono (Per.mo m4) d3).sm s5) (.tup (.inl ⟨_, rfl, upd_same⟩) (.cons (dd4.sm s5) .nil)) ?_ fun v6 H6 s6 d6 => ?_)))
          · exact len_cat (len_cut (by omega)) (by show 1 ≤ 10000; decide)
          refine ⟨_, rfl, ⟨_, rfl, .inl ⟨_, _, rfl, rfl, _, rfl, .inl (dat_cut (((D.mono (Per.mo m4) dv3).sm s5).sm s6) fun v7 H7 s7 d7 => ?_)⟩⟩⟩
          refine .inr (.inr (.inr (dat_cat (d6.sm s7) d7 ?_ fun v8 H8 s8 d8 => ?_)))
          · refine len_cat ?_ (len_cut (by omega))
            have := (cutD_sub ds none (some (j : Int))).length_le
            rw [List.length_append]
            show _ + 1 ≤ _
            omega
          refine k H8 o4 v8 _ ?_ ?_ (po4.mono (by omega)) d8 ?_
          · exact Bt.trans b1 (Bt.trans b2 (Bt.trans (Same.bt s3) (Bt.trans b4 (Same.bt (Same.tr s5 (Same.tr s6 (Same.tr s7 s8)))))))
          · exact s8 _ _ (s7 _ _ (s6 _ _ (s5 _ _ hp4)))
          · rw [cutD_take (by omega), cutD_drop]
            have h4 := g4.w
            have h5 := g4.dp
            have h6 := gi.dp
            have h7 := ga.w
            have wl := GdA.mk (n := wtA (ds.take j)) (Nat.le_refl _) (Nat.le_trans (depthA_sub (List.take_sublist j ds)) ga.dp) (ascA_sub (List.take_sublist j ds) ga.as)
            have wr := GdA.mk (n := wtA (ds.drop (j + 1))) (Nat.le_refl _) (Nat.le_trans (depthA_sub (List.drop_sublist (j + 1) ds)) ga.dp) (ascA_sub (List.drop_sublist (j + 1) ds) ga.as)
            have all := ((wl.mono (Nat.le_refl _) (show m' + 1 - 1 ≤ m' + 3 by omega)).app (GdA.one g4)).app (wr.mono (Nat.le_refl _) (show m' + 1 - 1 ≤ m' + 3 by omega))
            exact all.tup.mono (by omega) (by omega)
theorem fnG_no {CX : CXT} {k : Nat} {ps : List Str} : FnG P w K mg base CX k f fd ps (fun _ _ _ _ => False) := ⟨fun _ _ _ _ h => h.elim, fun _ _ _ _ _ _ _ _ _ _ _ _ _ h => h.elim⟩
theorem ok_bent (KS : KSys K) (F : FnP K "_law_bent" s_bent f fd) (nb : NB mg) (c__law_take : CalG P w K mg base CX0 1 "_law_take" spTake) (c__law_of : CalG P w K mg base CX0 2 "_law_of" (spOf K)) (c__law_odd : CalG P w K mg base CX0 3 "_law_odd" spOdd)
    (h1 : mg "_law_bent" = some (.ref f)) (h2 : PySem.W.keepIn K (.ref f) = true) (h3 : Binds K fd p_bent []) : ∀ m, m ≤ 60 → FnG P w K mg base CX0 (m + 4) f fd p_bent (spBent m) := by
  intro m
  induction m with
  | zero => exact fun hm => ok_bent0 KS hm F nb c__law_take c__law_of c__law_odd ⟨f, fd, p_bent, fnG_no, h1, h2, h3⟩
  | succ m ih => exact fun hm => ok_bent0 KS hm F nb c__law_take c__law_of c__law_odd ⟨f, fd, p_bent, ih (by omega), h1, h2, h3⟩
end
end K00

set_option Elab.async false
set_option linter.all false
set_option maxRecDepth 100000
set_option maxHeartbeats 4000000
namespace K00
open PySem PySem.Spec PyProof.Rows L2 GX
def enames : List Str := "DialError" :: "BadParts" :: "BadNumber" :: "BadText" :: "BadName" :: "BadValues" :: "BadDial" :: "BadSum" :: "BadWhole" :: "BadShares" :: "BadOthers" :: "TooGreat" :: "BadRows" :: "BadSums" :: "BadPlan" :: "NoNote" :: "NoPerson" :: "BadPeople" :: "BadBy" :: "NoLine" :: "BadLine" :: "Needed" :: "BadNumbers" :: "BadFew" :: "Unlike" :: "BadSeen" :: "NoFit" :: "BadOffers" :: "BadWishes" :: "BadRounds" :: "BadLooks" :: "BadWord" :: "TooMany" :: "BadNote" :: "Full" :: "NothingToUndo" :: "NothingToRedo" :: "NoTrial" :: "BadJournal" :: "BadDesk" :: "BadSay" :: []
/-- the errors, DialError ahead -/
structure Er (K : PySem.W.Frag) (mg : Str → Option Value) (fI : Addr) (Cf : Nat → Addr) : Prop where
  e : ∀ j, j < 41 → EC K mg fI (enames.getD j "") (Cf j)
  km : ∀ i, i < 41 → ∀ j, 1 ≤ j → j < 41 → PySem.W.kitOne K (.ref (Cf i)) (.ref (Cf j)) = some (decide (i = j))
  kd : ∀ i, 1 ≤ i → i < 41 → PySem.W.kitOne K (.ref (Cf i)) (.ref (Cf 0)) = some true
  kv : ∀ i, i < 41 → PySem.W.kitOne K (.ref (Cf i)) (.type "ValueError") = some true
def CMk (K : PySem.W.Frag) (Cf : Nat → Addr) (i : Nat) (σ : L2.St) (H : Hp) : Prop := i < 41 ∧ VarE K 0 (Cf i) σ H
section
variable {P : Program} {w : World} {K : PySem.W.Frag} {mg : Str → Option Value} {base : Heap} {f fI : Addr} {fd : FuncData} {Cf : Nat → Addr}
theorem Er.e_DialError (er : Er K mg fI Cf) : EC K mg fI "DialError" (Cf 0) := er.e 0 (by decide)
theorem Er.e_BadParts (er : Er K mg fI Cf) : EC K mg fI "BadParts" (Cf 1) := er.e 1 (by decide)
theorem Er.e_BadNumber (er : Er K mg fI Cf) : EC K mg fI "BadNumber" (Cf 2) := er.e 2 (by decide)
theorem Er.e_BadText (er : Er K mg fI Cf) : EC K mg fI "BadText" (Cf 3) := er.e 3 (by decide)
theorem Er.e_BadName (er : Er K mg fI Cf) : EC K mg fI "BadName" (Cf 4) := er.e 4 (by decide)
theorem Er.e_BadValues (er : Er K mg fI Cf) : EC K mg fI "BadValues" (Cf 5) := er.e 5 (by decide)
theorem Er.e_BadDial (er : Er K mg fI Cf) : EC K mg fI "BadDial" (Cf 6) := er.e 6 (by decide)
theorem Er.e_BadSum (er : Er K mg fI Cf) : EC K mg fI "BadSum" (Cf 7) := er.e 7 (by decide)
theorem Er.e_BadWhole (er : Er K mg fI Cf) : EC K mg fI "BadWhole" (Cf 8) := er.e 8 (by decide)
theorem Er.e_BadShares (er : Er K mg fI Cf) : EC K mg fI "BadShares" (Cf 9) := er.e 9 (by decide)
theorem Er.e_BadOthers (er : Er K mg fI Cf) : EC K mg fI "BadOthers" (Cf 10) := er.e 10 (by decide)
theorem Er.e_TooGreat (er : Er K mg fI Cf) : EC K mg fI "TooGreat" (Cf 11) := er.e 11 (by decide)
theorem Er.e_BadRows (er : Er K mg fI Cf) : EC K mg fI "BadRows" (Cf 12) := er.e 12 (by decide)
theorem Er.e_BadSums (er : Er K mg fI Cf) : EC K mg fI "BadSums" (Cf 13) := er.e 13 (by decide)
theorem Er.e_BadPlan (er : Er K mg fI Cf) : EC K mg fI "BadPlan" (Cf 14) := er.e 14 (by decide)
theorem Er.e_NoNote (er : Er K mg fI Cf) : EC K mg fI "NoNote" (Cf 15) := er.e 15 (by decide)
theorem Er.e_NoPerson (er : Er K mg fI Cf) : EC K mg fI "NoPerson" (Cf 16) := er.e 16 (by decide)
theorem Er.e_BadPeople (er : Er K mg fI Cf) : EC K mg fI "BadPeople" (Cf 17) := er.e 17 (by decide)
theorem Er.e_BadBy (er : Er K mg fI Cf) : EC K mg fI "BadBy" (Cf 18) := er.e 18 (by decide)
theorem Er.e_NoLine (er : Er K mg fI Cf) : EC K mg fI "NoLine" (Cf 19) := er.e 19 (by decide)
theorem Er.e_BadLine (er : Er K mg fI Cf) : EC K mg fI "BadLine" (Cf 20) := er.e 20 (by decide)
theorem Er.e_Needed (er : Er K mg fI Cf) : EC K mg fI "Needed" (Cf 21) := er.e 21 (by decide)
theorem Er.e_BadNumbers (er : Er K mg fI Cf) : EC K mg fI "BadNumbers" (Cf 22) := er.e 22 (by decide)
theorem Er.e_BadFew (er : Er K mg fI Cf) : EC K mg fI "BadFew" (Cf 23) := er.e 23 (by decide)
theorem Er.e_Unlike (er : Er K mg fI Cf) : EC K mg fI "Unlike" (Cf 24) := er.e 24 (by decide)
theorem Er.e_BadSeen (er : Er K mg fI Cf) : EC K mg fI "BadSeen" (Cf 25) := er.e 25 (by decide)
theorem Er.e_NoFit (er : Er K mg fI Cf) : EC K mg fI "NoFit" (Cf 26) := er.e 26 (by decide)
theorem Er.e_BadOffers (er : Er K mg fI Cf) : EC K mg fI "BadOffers" (Cf 27) := er.e 27 (by decide)
theorem Er.e_BadWishes (er : Er K mg fI Cf) : EC K mg fI "BadWishes" (Cf 28) := er.e 28 (by decide)
theorem Er.e_BadRounds (er : Er K mg fI Cf) : EC K mg fI "BadRounds" (Cf 29) := er.e 29 (by decide)
theorem Er.e_BadLooks (er : Er K mg fI Cf) : EC K mg fI "BadLooks" (Cf 30) := er.e 30 (by decide)
theorem Er.e_BadWord (er : Er K mg fI Cf) : EC K mg fI "BadWord" (Cf 31) := er.e 31 (by decide)
theorem Er.e_TooMany (er : Er K mg fI Cf) : EC K mg fI "TooMany" (Cf 32) := er.e 32 (by decide)
theorem Er.e_BadNote (er : Er K mg fI Cf) : EC K mg fI "BadNote" (Cf 33) := er.e 33 (by decide)
theorem Er.e_Full (er : Er K mg fI Cf) : EC K mg fI "Full" (Cf 34) := er.e 34 (by decide)
theorem Er.e_NothingToUndo (er : Er K mg fI Cf) : EC K mg fI "NothingToUndo" (Cf 35) := er.e 35 (by decide)
theorem Er.e_NothingToRedo (er : Er K mg fI Cf) : EC K mg fI "NothingToRedo" (Cf 36) := er.e 36 (by decide)
theorem Er.e_NoTrial (er : Er K mg fI Cf) : EC K mg fI "NoTrial" (Cf 37) := er.e 37 (by decide)
theorem Er.e_BadJournal (er : Er K mg fI Cf) : EC K mg fI "BadJournal" (Cf 38) := er.e 38 (by decide)
theorem Er.e_BadDesk (er : Er K mg fI Cf) : EC K mg fI "BadDesk" (Cf 39) := er.e 39 (by decide)
theorem Er.e_BadSay (er : Er K mg fI Cf) : EC K mg fI "BadSay" (Cf 40) := er.e 40 (by decide)
/-! ### an error keeps its value -/
abbrev s_init : Stmt := inClass (top 1) 0
abbrev N_init : List Str := ["self", "value"]
abbrev p_init : List Str := ["self", "value"]
theorem sc_init : FnScope N_init p_init (defScope s_init) := ⟨rfl, rfl, rfl, by decide +kernel, rfl, by decide +kernel, by decide +kernel⟩
theorem ok_init (F : FunD K "__init__" "DialError.__init__" (defArgs s_init) (defBody s_init) (defScope s_init) [] [] f fd) : FnG P w K mg base CX0 1 f fd p_init (spInit K) := by
  refine fnG0 F sc_init (fun vs H Q E h => ?_) (fun cdv A outer s H vs Q E hr h => ?_)
  · obtain ⟨a, C, v, rfl, _⟩ := h
    rfl
  · obtain ⟨a, C, v, rfl, ox, noV, ha, k⟩ := h
    refine ⟨_, (pss_one (ps_ost (pv 0) (pv 1))), ?_⟩
    exact ⟨_, rfl, _, rfl, a, C, rfl, ox, noV, .inl ⟨ha, k⟩⟩
/-! ### all errors -/
def spAll (Cf : Nat → Addr) : Sp := fun vs H Q _ => ∃ v, vs = [v] ∧ ∀ l xs H', Same H H' → H' l = some (.lst xs) → ExL H' v xs ((List.range 40).map fun j => Cf (j + 1)) → Q (.ref l) H'
abbrev s_all : Stmt := top 49
abbrev N_all : List Str := ["_law_value", "_law_found"]
abbrev p_all : List Str := ["_law_value"]
theorem sc_all : FnScope N_all p_all (defScope s_all) := ⟨rfl, rfl, rfl, by decide +kernel, rfl, by decide +kernel, by decide +kernel⟩
theorem ok_all (er : Er K mg fI Cf) (iN : IN P w K mg base fI) (F : FnP K "_law_all" s_all f fd) (nb : NB mg) : FnG P w K mg base CX0 3 f fd p_all (spAll Cf) := by
  refine fnG0 F sc_all (fun vs H Q E h => ?_) (fun cdv A outer s H vs Q E hr h => ?_)
  · obtain ⟨v, rfl, _⟩ := h
    rfl
  · obtain ⟨v, rfl, k⟩ := h
    refine ⟨_, (pss_cons (ps_set (i := 1) sc_all.nd rfl (Or.inl rfl) (pe_lst (pa_ex (i := 0) (pa_cons (pe_ex er.e_BadParts iN hr (by omega) (pa_cons (pv 0) pa_nil)) (pa_cons (pe_ex er.e_BadNumber iN hr (by omega) (pa_cons (pv 0) pa_nil)) (pa_cons (pe_ex er.e_BadText iN hr (by omega) (pa_cons (pv 0) pa_nil)) (pa_cons (pe_ex er.e_BadName iN hr (by omega) (pa_cons (pv 0) pa_nil)) (pa_cons (pe_ex er.e_BadValues iN hr (by omega) (pa_cons (pv 0) pa_nil)) (pa_cons (pe_ex er.e_BadDial iN hr (by omega) (pa_cons (pv 0) pa_nil)) pa_nil)))))) (fun v σ H hv => (ee_cons (ee_mk er.e_BadParts.f hv) (ee_cons (ee_mk er.e_BadNumber.f hv) (ee_cons (ee_mk er.e_BadText.f hv) (ee_cons (ee_mk er.e_BadName.f hv) (ee_cons (ee_mk er.e_BadValues.f hv) (ee_cons (ee_mk er.e_BadDial.f hv) ee_nil))))))))))
  (pss_cons (ps_set (i := 1) sc_all.nd rfl (Or.inl rfl) (pe_op op_addA (pv 1) (pe_lst (pa_ex (i := 0) (pa_cons (pe_ex er.e_BadSum iN hr (by omega) (pa_cons (pv 0) pa_nil)) (pa_cons (pe_ex er.e_BadWhole iN hr (by omega) (pa_cons (pv 0) pa_nil)) (pa_cons (pe_ex er.e_BadShares iN hr (by omega) (pa_cons (pv 0) pa_nil)) (pa_cons (pe_ex er.e_BadOthers iN hr (by omega) (pa_cons (pv 0) pa_nil)) (pa_cons (pe_ex er.e_TooGreat iN hr (by omega) (pa_cons (pv 0) pa_nil)) pa_nil))))) (fun v σ H hv => (ee_cons (ee_mk er.e_BadSum.f hv) (ee_cons (ee_mk er.e_BadWhole.f hv) (ee_cons (ee_mk er.e_BadShares.f hv) (ee_cons (ee_mk er.e_BadOthers.f hv) (ee_cons (ee_mk er.e_TooGreat.f hv) ee_nil))))))))))
  (pss_cons (ps_set (i := 1) sc_all.nd rfl (Or.inl rfl) (pe_op op_addA (pv 1) (pe_lst (pa_ex (i := 0) (pa_cons (pe_ex er.e_BadRows iN hr (by omega) (pa_cons (pv 0) pa_nil)) (pa_cons (pe_ex er.e_BadSums iN hr (by omega) (pa_cons (pv 0) pa_nil)) (pa_cons (pe_ex er.e_BadPlan iN hr (by omega) (pa_cons (pv 0) pa_nil)) (pa_cons (pe_ex er.e_NoNote iN hr (by omega) (pa_cons (pv 0) pa_nil)) (pa_cons (pe_ex er.e_NoPerson iN hr (by omega) (pa_cons (pv 0) pa_nil)) pa_nil))))) (fun v σ H hv => (ee_cons (ee_mk er.e_BadRows.f hv) (ee_cons (ee_mk er.e_BadSums.f hv) (ee_cons (ee_mk er.e_BadPlan.f hv) (ee_cons (ee_mk er.e_NoNote.f hv) (ee_cons (ee_mk er.e_NoPerson.f hv) ee_nil))))))))))
  (pss_cons (ps_set (i := 1) sc_all.nd rfl (Or.inl rfl) (pe_op op_addA (pv 1) (pe_lst (pa_ex (i := 0) (pa_cons (pe_ex er.e_BadPeople iN hr (by omega) (pa_cons (pv 0) pa_nil)) (pa_cons (pe_ex er.e_BadBy iN hr (by omega) (pa_cons (pv 0) pa_nil)) (pa_cons (pe_ex er.e_NoLine iN hr (by omega) (pa_cons (pv 0) pa_nil)) (pa_cons (pe_ex er.e_BadLine iN hr (by omega) (pa_cons (pv 0) pa_nil)) (pa_cons (pe_ex er.e_Needed iN hr (by omega) (pa_cons (pv 0) pa_nil)) pa_nil))))) (fun v σ H hv => (ee_cons (ee_mk er.e_BadPeople.f hv) (ee_cons (ee_mk er.e_BadBy.f hv) (ee_cons (ee_mk er.e_NoLine.f hv) (ee_cons (ee_mk er.e_BadLine.f hv) (ee_cons (ee_mk er.e_Needed.f hv) ee_nil))))))))))
  (pss_cons (ps_set (i := 1) sc_all.nd rfl (Or.inl rfl) (pe_op op_addA (pv 1) (pe_lst (pa_ex (i := 0) (pa_cons (pe_ex er.e_BadNumbers iN hr (by omega) (pa_cons (pv 0) pa_nil)) (pa_cons (pe_ex er.e_BadFew iN hr (by omega) (pa_cons (pv 0) pa_nil)) (pa_cons (pe_ex er.e_Unlike iN hr (by omega) (pa_cons (pv 0) pa_nil)) (pa_cons (pe_ex er.e_BadSeen iN hr (by omega) (pa_cons (pv 0) pa_nil)) (pa_cons (pe_ex er.e_NoFit iN hr (by omega) (pa_cons (pv 0) pa_nil)) pa_nil))))) (fun v σ H hv => (ee_cons (ee_mk er.e_BadNumbers.f hv) (ee_cons (ee_mk er.e_BadFew.f hv) (ee_cons (ee_mk er.e_Unlike.f hv) (ee_cons (ee_mk er.e_BadSeen.f hv) (ee_cons (ee_mk er.e_NoFit.f hv) ee_nil))))))))))
  (pss_cons (ps_set (i := 1) sc_all.nd rfl (Or.inl rfl) (pe_op op_addA (pv 1) (pe_lst (pa_ex (i := 0) (pa_cons (pe_ex er.e_BadOffers iN hr (by omega) (pa_cons (pv 0) pa_nil)) (pa_cons (pe_ex er.e_BadWishes iN hr (by omega) (pa_cons (pv 0) pa_nil)) (pa_cons (pe_ex er.e_BadRounds iN hr (by omega) (pa_cons (pv 0) pa_nil)) (pa_cons (pe_ex er.e_BadLooks iN hr (by omega) (pa_cons (pv 0) pa_nil)) (pa_cons (pe_ex er.e_BadWord iN hr (by omega) (pa_cons (pv 0) pa_nil)) pa_nil))))) (fun v σ H hv => (ee_cons (ee_mk er.e_BadOffers.f hv) (ee_cons (ee_mk er.e_BadWishes.f hv) (ee_cons (ee_mk er.e_BadRounds.f hv) (ee_cons (ee_mk er.e_BadLooks.f hv) (ee_cons (ee_mk er.e_BadWord.f hv) ee_nil))))))))))
  (pss_cons (ps_set (i := 1) sc_all.nd rfl (Or.inl rfl) (pe_op op_addA (pv 1) (pe_lst (pa_ex (i := 0) (pa_cons (pe_ex er.e_TooMany iN hr (by omega) (pa_cons (pv 0) pa_nil)) (pa_cons (pe_ex er.e_BadNote iN hr (by omega) (pa_cons (pv 0) pa_nil)) (pa_cons (pe_ex er.e_Full iN hr (by omega) (pa_cons (pv 0) pa_nil)) (pa_cons (pe_ex er.e_NothingToUndo iN hr (by omega) (pa_cons (pv 0) pa_nil)) (pa_cons (pe_ex er.e_NothingToRedo iN hr (by omega) (pa_cons (pv 0) pa_nil)) pa_nil))))) (fun v σ H hv => (ee_cons (ee_mk er.e_TooMany.f hv) (ee_cons (ee_mk er.e_BadNote.f hv) (ee_cons (ee_mk er.e_Full.f hv) (ee_cons (ee_mk er.e_NothingToUndo.f hv) (ee_cons (ee_mk er.e_NothingToRedo.f hv) ee_nil))))))))))
  (pss_one (ps_ret (pe_op op_addA (pv 1) (pe_lst (pa_ex (i := 0) (pa_cons (pe_ex er.e_NoTrial iN hr (by omega) (pa_cons (pv 0) pa_nil)) (pa_cons (pe_ex er.e_BadJournal iN hr (by omega) (pa_cons (pv 0) pa_nil)) (pa_cons (pe_ex er.e_BadDesk iN hr (by omega) (pa_cons (pv 0) pa_nil)) (pa_cons (pe_ex er.e_BadSay iN hr (by omega) (pa_cons (pv 0) pa_nil)) pa_nil)))) (fun v σ H hv => (ee_cons (ee_mk er.e_NoTrial.f hv) (ee_cons (ee_mk er.e_BadJournal.f hv) (ee_cons (ee_mk er.e_BadDesk.f hv) (ee_cons (ee_mk er.e_BadSay.f hv) ee_nil))))))))))))))))), ?_⟩
    have ln : ∀ {n : Nat}, n ≤ 1000 → n ≤ sizeLine := fun h => Nat.le_trans h (by decide)
    refine ⟨_, rfl, fun vs1 H1 s1 x1 => ⟨by rw [x1.len]; exact ln (by show 6 ≤ 1000; decide), fun l1 f1 => ?_⟩⟩
    have t1 := Same.new (o := .lst vs1) f1
    have y1 := x1.sm t1
    have z1 : Same H (upd H1 l1 (.lst vs1)) := Same.tr s1 t1
    refine ⟨_, rfl, _, rfl, fun ws G g w => ⟨by rw [w.len]; exact ln (by show 5 ≤ 1000; decide), fun m fm => cat_ex y1 upd_same g fm w (by show 6 + 5 ≤ 1000; decide) fun vs2 l2 H2 s2 e2 y2 => ?_⟩⟩
    have z2 := Same.tr z1 s2
    refine ⟨_, rfl, _, rfl, fun ws G g w => ⟨by rw [w.len]; exact ln (by show 5 ≤ 1000; decide), fun m fm => cat_ex y2 e2 g fm w (by show 11 + 5 ≤ 1000; decide) fun vs3 l3 H3 s3 e3 y3 => ?_⟩⟩
    have z3 := Same.tr z2 s3
    refine ⟨_, rfl, _, rfl, fun ws G g w => ⟨by rw [w.len]; exact ln (by show 5 ≤ 1000; decide), fun m fm => cat_ex y3 e3 g fm w (by show 16 + 5 ≤ 1000; decide) fun vs4 l4 H4 s4 e4 y4 => ?_⟩⟩
    have z4 := Same.tr z3 s4
    refine ⟨_, rfl, _, rfl, fun ws G g w => ⟨by rw [w.len]; exact ln (by show 5 ≤ 1000; decide), fun m fm => cat_ex y4 e4 g fm w (by show 21 + 5 ≤ 1000; decide) fun vs5 l5 H5 s5 e5 y5 => ?_⟩⟩
    have z5 := Same.tr z4 s5
    refine ⟨_, rfl, _, rfl, fun ws G g w => ⟨by rw [w.len]; exact ln (by show 5 ≤ 1000; decide), fun m fm => cat_ex y5 e5 g fm w (by show 26 + 5 ≤ 1000; decide) fun vs6 l6 H6 s6 e6 y6 => ?_⟩⟩
    have z6 := Same.tr z5 s6
    refine ⟨_, rfl, _, rfl, fun ws G g w => ⟨by rw [w.len]; exact ln (by show 5 ≤ 1000; decide), fun m fm => cat_ex y6 e6 g fm w (by show 31 + 5 ≤ 1000; decide) fun vs7 l7 H7 s7 e7 y7 => ?_⟩⟩
    have z7 := Same.tr z6 s7
    refine ⟨_, rfl, _, rfl, fun ws G g w => ⟨by rw [w.len]; exact ln (by show 4 ≤ 1000; decide), fun m fm => cat_ex y7 e7 g fm w (by show 36 + 4 ≤ 1000; decide) fun vs8 l8 H8 s8 e8 y8 => ?_⟩⟩
    have z8 := Same.tr z7 s8
    exact k l8 _ H8 z8 e8 y8
/-! ### which errors an error is -/
def mk (i : Nat) : List Bool := (List.range 40).map fun j => decide (i = j + 1)
def marks (i : Nat) : List PyData := (mk i).map PyData.bool
def spMarks (K : PySem.W.Frag) (fI : Addr) (Cf : Nat → Addr) : Sp := fun vs H Q _ => ∃ (e : Addr) (fs : List (Str × V)) (i : Nat), vs = [.ref e] ∧ i < 41 ∧ ExAt H e (Cf i) fs ∧ ∀ l xs H', Same H H' → H' l = some (.lst xs) → DA (Per H') xs (marks i) → Q (.ref l) H'
abbrev s_marks : Stmt := top 50
abbrev N_marks : List Str := ["_law_error", "_law_found"]
abbrev p_marks : List Str := ["_law_error"]
theorem sc_marks : FnScope N_marks p_marks (defScope s_marks) := ⟨rfl, rfl, rfl, by decide +kernel, rfl, by decide +kernel, by decide +kernel⟩
theorem ok_marks (er : Er K mg fI Cf) (F : FnP K "_law_marks" s_marks f fd) (nb : NB mg) : FnG P w K mg base CX0 1 f fd p_marks (spMarks K fI Cf) := by
  refine fnG0 F sc_marks (fun vs H Q E h => ?_) (fun cdv A outer s H vs Q E hr h => ?_)
  · obtain ⟨e, fs, i, rfl, _⟩ := h
    rfl
  · obtain ⟨e, fs, i, rfl, hi, ea, k⟩ := h
    refine ⟨_, (pss_cons (ps_set (i := 1) sc_marks.nd rfl (Or.inl rfl) (pe_lst (pa_dv (C := CMk K Cf) (ds := fun i => [PyData.bool (decide (i = 1)), PyData.bool (decide (i = 2)), PyData.bool (decide (i = 3))]) (pa_cons (pe_callB (call_isiA) rfl nb.isinstance bt_isinstance (pa_cons (pv 0) (pa_cons (pe_own (er.e_BadParts).hm) pa_nil))) (pa_cons (pe_callB (call_isiA) rfl nb.isinstance bt_isinstance (pa_cons (pv 0) (pa_cons (pe_own (er.e_BadNumber).hm) pa_nil))) (pa_cons (pe_callB (call_isiA) rfl nb.isinstance bt_isinstance (pa_cons (pv 0) (pa_cons (pe_own (er.e_BadText).hm) pa_nil))) pa_nil))) (fun i σ H c => (ev_cons (ev_isi c.2 (er.km i c.1 1 (by decide) (by decide))) (ev_cons (ev_isi c.2 (er.km i c.1 2 (by decide) (by decide))) (ev_cons (ev_isi c.2 (er.km i c.1 3 (by decide) (by decide))) ev_nil)))))))
  (pss_cons (ps_set (i := 1) sc_marks.nd rfl (Or.inl rfl) (pe_op op_addA (pv 1) (pe_lst (pa_dv (C := CMk K Cf) (ds := fun i => [PyData.bool (decide (i = 4)), PyData.bool (decide (i = 5)), PyData.bool (decide (i = 6))]) (pa_cons (pe_callB (call_isiA) rfl nb.isinstance bt_isinstance (pa_cons (pv 0) (pa_cons (pe_own (er.e_BadName).hm) pa_nil))) (pa_cons (pe_callB (call_isiA) rfl nb.isinstance bt_isinstance (pa_cons (pv 0) (pa_cons (pe_own (er.e_BadValues).hm) pa_nil))) (pa_cons (pe_callB (call_isiA) rfl nb.isinstance bt_isinstance (pa_cons (pv 0) (pa_cons (pe_own (er.e_BadDial).hm) pa_nil))) pa_nil))) (fun i σ H c => (ev_cons (ev_isi c.2 (er.km i c.1 4 (by decide) (by decide))) (ev_cons (ev_isi c.2 (er.km i c.1 5 (by decide) (by decide))) (ev_cons (ev_isi c.2 (er.km i c.1 6 (by decide) (by decide))) ev_nil))))))))
  (pss_cons (ps_set (i := 1) sc_marks.nd rfl (Or.inl rfl) (pe_op op_addA (pv 1) (pe_lst (pa_dv (C := CMk K Cf) (ds := fun i => [PyData.bool (decide (i = 7)), PyData.bool (decide (i = 8)), PyData.bool (decide (i = 9))]) (pa_cons (pe_callB (call_isiA) rfl nb.isinstance bt_isinstance (pa_cons (pv 0) (pa_cons (pe_own (er.e_BadSum).hm) pa_nil))) (pa_cons (pe_callB (call_isiA) rfl nb.isinstance bt_isinstance (pa_cons (pv 0) (pa_cons (pe_own (er.e_BadWhole).hm) pa_nil))) (pa_cons (pe_callB (call_isiA) rfl nb.isinstance bt_isinstance (pa_cons (pv 0) (pa_cons (pe_own (er.e_BadShares).hm) pa_nil))) pa_nil))) (fun i σ H c => (ev_cons (ev_isi c.2 (er.km i c.1 7 (by decide) (by decide))) (ev_cons (ev_isi c.2 (er.km i c.1 8 (by decide) (by decide))) (ev_cons (ev_isi c.2 (er.km i c.1 9 (by decide) (by decide))) ev_nil))))))))
  (pss_cons (ps_set (i := 1) sc_marks.nd rfl (Or.inl rfl) (pe_op op_addA (pv 1) (pe_lst (pa_dv (C := CMk K Cf) (ds := fun i => [PyData.bool (decide (i = 10)), PyData.bool (decide (i = 11)), PyData.bool (decide (i = 12))]) (pa_cons (pe_callB (call_isiA) rfl nb.isinstance bt_isinstance (pa_cons (pv 0) (pa_cons (pe_own (er.e_BadOthers).hm) pa_nil))) (pa_cons (pe_callB (call_isiA) rfl nb.isinstance bt_isinstance (pa_cons (pv 0) (pa_cons (pe_own (er.e_TooGreat).hm) pa_nil))) (pa_cons (pe_callB (call_isiA) rfl nb.isinstance bt_isinstance (pa_cons (pv 0) (pa_cons (pe_own (er.e_BadRows).hm) pa_nil))) pa_nil))) (fun i σ H c => (ev_cons (ev_isi c.2 (er.km i c.1 10 (by decide) (by decide))) (ev_cons (ev_isi c.2 (er.km i c.1 11 (by decide) (by decide))) (ev_cons (ev_isi c.2 (er.km i c.1 12 (by decide) (by decide))) ev_nil))))))))
  (pss_cons (ps_set (i := 1) sc_marks.nd rfl (Or.inl rfl) (pe_op op_addA (pv 1) (pe_lst (pa_dv (C := CMk K Cf) (ds := fun i => [PyData.bool (decide (i = 13)), PyData.bool (decide (i = 14)), PyData.bool (decide (i = 15))]) (pa_cons (pe_callB (call_isiA) rfl nb.isinstance bt_isinstance (pa_cons (pv 0) (pa_cons (pe_own (er.e_BadSums).hm) pa_nil))) (pa_cons (pe_callB (call_isiA) rfl nb.isinstance bt_isinstance (pa_cons (pv 0) (pa_cons (pe_own (er.e_BadPlan).hm) pa_nil))) (pa_cons (pe_callB (call_isiA) rfl nb.isinstance bt_isinstance (pa_cons (pv 0) (pa_cons (pe_own (er.e_NoNote).hm) pa_nil))) pa_nil))) (fun i σ H c => (ev_cons (ev_isi c.2 (er.km i c.1 13 (by decide) (by decide))) (ev_cons (ev_isi c.2 (er.km i c.1 14 (by decide) (by decide))) (ev_cons (ev_isi c.2 (er.km i c.1 15 (by decide) (by decide))) ev_nil))))))))
  (pss_cons (ps_set (i := 1) sc_marks.nd rfl (Or.inl rfl) (pe_op op_addA (pv 1) (pe_lst (pa_dv (C := CMk K Cf) (ds := fun i => [PyData.bool (decide (i = 16)), PyData.bool (decide (i = 17)), PyData.bool (decide (i = 18))]) (pa_cons (pe_callB (call_isiA) rfl nb.isinstance bt_isinstance (pa_cons (pv 0) (pa_cons (pe_own (er.e_NoPerson).hm) pa_nil))) (pa_cons (pe_callB (call_isiA) rfl nb.isinstance bt_isinstance (pa_cons (pv 0) (pa_cons (pe_own (er.e_BadPeople).hm) pa_nil))) (pa_cons (pe_callB (call_isiA) rfl nb.isinstance bt_isinstance (pa_cons (pv 0) (pa_cons (pe_own (er.e_BadBy).hm) pa_nil))) pa_nil))) (fun i σ H c => (ev_cons (ev_isi c.2 (er.km i c.1 16 (by decide) (by decide))) (ev_cons (ev_isi c.2 (er.km i c.1 17 (by decide) (by decide))) (ev_cons (ev_isi c.2 (er.km i c.1 18 (by decide) (by decide))) ev_nil))))))))
  (pss_cons (ps_set (i := 1) sc_marks.nd rfl (Or.inl rfl) (pe_op op_addA (pv 1) (pe_lst (pa_dv (C := CMk K Cf) (ds := fun i => [PyData.bool (decide (i = 19)), PyData.bool (decide (i = 20)), PyData.bool (decide (i = 21))]) (pa_cons (pe_callB (call_isiA) rfl nb.isinstance bt_isinstance (pa_cons (pv 0) (pa_cons (pe_own (er.e_NoLine).hm) pa_nil))) (pa_cons (pe_callB (call_isiA) rfl nb.isinstance bt_isinstance (pa_cons (pv 0) (pa_cons (pe_own (er.e_BadLine).hm) pa_nil))) (pa_cons (pe_callB (call_isiA) rfl nb.isinstance bt_isinstance (pa_cons (pv 0) (pa_cons (pe_own (er.e_Needed).hm) pa_nil))) pa_nil))) (fun i σ H c => (ev_cons (ev_isi c.2 (er.km i c.1 19 (by decide) (by decide))) (ev_cons (ev_isi c.2 (er.km i c.1 20 (by decide) (by decide))) (ev_cons (ev_isi c.2 (er.km i c.1 21 (by decide) (by decide))) ev_nil))))))))
  (pss_cons (ps_set (i := 1) sc_marks.nd rfl (Or.inl rfl) (pe_op op_addA (pv 1) (pe_lst (pa_dv (C := CMk K Cf) (ds := fun i => [PyData.bool (decide (i = 22)), PyData.bool (decide (i = 23)), PyData.bool (decide (i = 24))]) (pa_cons (pe_callB (call_isiA) rfl nb.isinstance bt_isinstance (pa_cons (pv 0) (pa_cons (pe_own (er.e_BadNumbers).hm) pa_nil))) (pa_cons (pe_callB (call_isiA) rfl nb.isinstance bt_isinstance (pa_cons (pv 0) (pa_cons (pe_own (er.e_BadFew).hm) pa_nil))) (pa_cons (pe_callB (call_isiA) rfl nb.isinstance bt_isinstance (pa_cons (pv 0) (pa_cons (pe_own (er.e_Unlike).hm) pa_nil))) pa_nil))) (fun i σ H c => (ev_cons (ev_isi c.2 (er.km i c.1 22 (by decide) (by decide))) (ev_cons (ev_isi c.2 (er.km i c.1 23 (by decide) (by decide))) (ev_cons (ev_isi c.2 (er.km i c.1 24 (by decide) (by decide))) ev_nil))))))))
  (pss_cons (ps_set (i := 1) sc_marks.nd rfl (Or.inl rfl) (pe_op op_addA (pv 1) (pe_lst (pa_dv (C := CMk K Cf) (ds := fun i => [PyData.bool (decide (i = 25)), PyData.bool (decide (i = 26)), PyData.bool (decide (i = 27))]) (pa_cons (pe_callB (call_isiA) rfl nb.isinstance bt_isinstance (pa_cons (pv 0) (pa_cons (pe_own (er.e_BadSeen).hm) pa_nil))) (pa_cons (pe_callB (call_isiA) rfl nb.isinstance bt_isinstance (pa_cons (pv 0) (pa_cons (pe_own (er.e_NoFit).hm) pa_nil))) (pa_cons (pe_callB (call_isiA) rfl nb.isinstance bt_isinstance (pa_cons (pv 0) (pa_cons (pe_own (er.e_BadOffers).hm) pa_nil))) pa_nil))) (fun i σ H c => (ev_cons (ev_isi c.2 (er.km i c.1 25 (by decide) (by decide))) (ev_cons (ev_isi c.2 (er.km i c.1 26 (by decide) (by decide))) (ev_cons (ev_isi c.2 (er.km i c.1 27 (by decide) (by decide))) ev_nil))))))))
  (pss_cons (ps_set (i := 1) sc_marks.nd rfl (Or.inl rfl) (pe_op op_addA (pv 1) (pe_lst (pa_dv (C := CMk K Cf) (ds := fun i => [PyData.bool (decide (i = 28)), PyData.bool (decide (i = 29)), PyData.bool (decide (i = 30))]) (pa_cons (pe_callB (call_isiA) rfl nb.isinstance bt_isinstance (pa_cons (pv 0) (pa_cons (pe_own (er.e_BadWishes).hm) pa_nil))) (pa_cons (pe_callB (call_isiA) rfl nb.isinstance bt_isinstance (pa_cons (pv 0) (pa_cons (pe_own (er.e_BadRounds).hm) pa_nil))) (pa_cons (pe_callB (call_isiA) rfl nb.isinstance bt_isinstance (pa_cons (pv 0) (pa_cons (pe_own (er.e_BadLooks).hm) pa_nil))) pa_nil))) (fun i σ H c => (ev_cons (ev_isi c.2 (er.km i c.1 28 (by decide) (by decide))) (ev_cons (ev_isi c.2 (er.km i c.1 29 (by decide) (by decide))) (ev_cons (ev_isi c.2 (er.km i c.1 30 (by decide) (by decide))) ev_nil))))))))
  (pss_cons (ps_set (i := 1) sc_marks.nd rfl (Or.inl rfl) (pe_op op_addA (pv 1) (pe_lst (pa_dv (C := CMk K Cf) (ds := fun i => [PyData.bool (decide (i = 31)), PyData.bool (decide (i = 32)), PyData.bool (decide (i = 33))]) (pa_cons (pe_callB (call_isiA) rfl nb.isinstance bt_isinstance (pa_cons (pv 0) (pa_cons (pe_own (er.e_BadWord).hm) pa_nil))) (pa_cons (pe_callB (call_isiA) rfl nb.isinstance bt_isinstance (pa_cons (pv 0) (pa_cons (pe_own (er.e_TooMany).hm) pa_nil))) (pa_cons (pe_callB (call_isiA) rfl nb.isinstance bt_isinstance (pa_cons (pv 0) (pa_cons (pe_own (er.e_BadNote).hm) pa_nil))) pa_nil))) (fun i σ H c => (ev_cons (ev_isi c.2 (er.km i c.1 31 (by decide) (by decide))) (ev_cons (ev_isi c.2 (er.km i c.1 32 (by decide) (by decide))) (ev_cons (ev_isi c.2 (er.km i c.1 33 (by decide) (by decide))) ev_nil))))))))
  (pss_cons (ps_set (i := 1) sc_marks.nd rfl (Or.inl rfl) (pe_op op_addA (pv 1) (pe_lst (pa_dv (C := CMk K Cf) (ds := fun i => [PyData.bool (decide (i = 34)), PyData.bool (decide (i = 35)), PyData.bool (decide (i = 36))]) (pa_cons (pe_callB (call_isiA) rfl nb.isinstance bt_isinstance (pa_cons (pv 0) (pa_cons (pe_own (er.e_Full).hm) pa_nil))) (pa_cons (pe_callB (call_isiA) rfl nb.isinstance bt_isinstance (pa_cons (pv 0) (pa_cons (pe_own (er.e_NothingToUndo).hm) pa_nil))) (pa_cons (pe_callB (call_isiA) rfl nb.isinstance bt_isinstance (pa_cons (pv 0) (pa_cons (pe_own (er.e_NothingToRedo).hm) pa_nil))) pa_nil))) (fun i σ H c => (ev_cons (ev_isi c.2 (er.km i c.1 34 (by decide) (by decide))) (ev_cons (ev_isi c.2 (er.km i c.1 35 (by decide) (by decide))) (ev_cons (ev_isi c.2 (er.km i c.1 36 (by decide) (by decide))) ev_nil))))))))
  (pss_cons (ps_set (i := 1) sc_marks.nd rfl (Or.inl rfl) (pe_op op_addA (pv 1) (pe_lst (pa_dv (C := CMk K Cf) (ds := fun i => [PyData.bool (decide (i = 37)), PyData.bool (decide (i = 38)), PyData.bool (decide (i = 39))]) (pa_cons (pe_callB (call_isiA) rfl nb.isinstance bt_isinstance (pa_cons (pv 0) (pa_cons (pe_own (er.e_NoTrial).hm) pa_nil))) (pa_cons (pe_callB (call_isiA) rfl nb.isinstance bt_isinstance (pa_cons (pv 0) (pa_cons (pe_own (er.e_BadJournal).hm) pa_nil))) (pa_cons (pe_callB (call_isiA) rfl nb.isinstance bt_isinstance (pa_cons (pv 0) (pa_cons (pe_own (er.e_BadDesk).hm) pa_nil))) pa_nil))) (fun i σ H c => (ev_cons (ev_isi c.2 (er.km i c.1 37 (by decide) (by decide))) (ev_cons (ev_isi c.2 (er.km i c.1 38 (by decide) (by decide))) (ev_cons (ev_isi c.2 (er.km i c.1 39 (by decide) (by decide))) ev_nil))))))))
  (pss_one (ps_ret (pe_op op_addA (pv 1) (pe_lst (pa_dv (C := CMk K Cf) (ds := fun i => [PyData.bool (decide (i = 40))]) (pa_cons (pe_callB (call_isiA) rfl nb.isinstance bt_isinstance (pa_cons (pv 0) (pa_cons (pe_own (er.e_BadSay).hm) pa_nil))) pa_nil) (fun i σ H c => (ev_cons (ev_isi c.2 (er.km i c.1 40 (by decide) (by decide))) ev_nil)))))))))))))))))))), ?_⟩
    have ln : ∀ {n : Nat}, n ≤ 1000 → n ≤ sizeLine := fun h => Nat.le_trans h (by decide)
    have ve : ∀ {H' : Hp} {σ : L2.St}, σ[0]? = some (some (.ref e)) → Same H H' → CMk K Cf i σ H' := fun hs s => ⟨hi, e, fI, fs, hs, ea.mo (Same.mo s), (er.e i hi).f⟩
    refine ⟨i, ve rfl (Same.rf H), fun vs1 H1 s1 x1 => ⟨by rw [x1.len]; exact ln (by show 3 ≤ 1000; decide), fun l1 f1 => ?_⟩⟩
    have t1 := Same.new (o := .lst vs1) f1
    have y1 := x1.sm t1
    have z1 : Same H (upd H1 l1 (.lst vs1)) := Same.tr s1 t1
    refine ⟨_, rfl, i, ve rfl z1, fun ws G g w => ⟨by rw [w.len]; exact ln (by show 3 ≤ 1000; decide), fun m fm => cat_da y1 upd_same g fm w (by show 3 + 3 ≤ 1000; decide) fun vs2 l2 H2 s2 e2 y2 => ?_⟩⟩
    have z2 := Same.tr z1 s2
    refine ⟨_, rfl, i, ve rfl z2, fun ws G g w => ⟨by rw [w.len]; exact ln (by show 3 ≤ 1000; decide), fun m fm => cat_da y2 e2 g fm w (by show 6 + 3 ≤ 1000; decide) fun vs3 l3 H3 s3 e3 y3 => ?_⟩⟩
    have z3 := Same.tr z2 s3
    refine ⟨_, rfl, i, ve rfl z3, fun ws G g w => ⟨by rw [w.len]; exact ln (by show 3 ≤ 1000; decide), fun m fm => cat_da y3 e3 g fm w (by show 9 + 3 ≤ 1000; decide) fun vs4 l4 H4 s4 e4 y4 => ?_⟩⟩
    have z4 := Same.tr z3 s4
    refine ⟨_, rfl, i, ve rfl z4, fun ws G g w => ⟨by rw [w.len]; exact ln (by show 3 ≤ 1000; decide), fun m fm => cat_da y4 e4 g fm w (by show 12 + 3 ≤ 1000; decide) fun vs5 l5 H5 s5 e5 y5 => ?_⟩⟩
    have z5 := Same.tr z4 s5
    refine ⟨_, rfl, i, ve rfl z5, fun ws G g w => ⟨by rw [w.len]; exact ln (by show 3 ≤ 1000; decide), fun m fm => cat_da y5 e5 g fm w (by show 15 + 3 ≤ 1000; decide) fun vs6 l6 H6 s6 e6 y6 => ?_⟩⟩
    have z6 := Same.tr z5 s6
    refine ⟨_, rfl, i, ve rfl z6, fun ws G g w => ⟨by rw [w.len]; exact ln (by show 3 ≤ 1000; decide), fun m fm => cat_da y6 e6 g fm w (by show 18 + 3 ≤ 1000; decide) fun vs7 l7 H7 s7 e7 y7 => ?_⟩⟩
    have z7 := Same.tr z6 s7
    refine ⟨_, rfl, i, ve rfl z7, fun ws G g w => ⟨by rw [w.len]; exact ln (by show 3 ≤ 1000; decide), fun m fm => cat_da y7 e7 g fm w (by show 21 + 3 ≤ 1000; decide) fun vs8 l8 H8 s8 e8 y8 => ?_⟩⟩
    have z8 := Same.tr z7 s8
    refine ⟨_, rfl, i, ve rfl z8, fun ws G g w => ⟨by rw [w.len]; exact ln (by show 3 ≤ 1000; decide), fun m fm => cat_da y8 e8 g fm w (by show 24 + 3 ≤ 1000; decide) fun vs9 l9 H9 s9 e9 y9 => ?_⟩⟩
    have z9 := Same.tr z8 s9
    refine ⟨_, rfl, i, ve rfl z9, fun ws G g w => ⟨by rw [w.len]; exact ln (by show 3 ≤ 1000; decide), fun m fm => cat_da y9 e9 g fm w (by show 27 + 3 ≤ 1000; decide) fun vs10 l10 H10 s10 e10 y10 => ?_⟩⟩
    have z10 := Same.tr z9 s10
    refine ⟨_, rfl, i, ve rfl z10, fun ws G g w => ⟨by rw [w.len]; exact ln (by show 3 ≤ 1000; decide), fun m fm => cat_da y10 e10 g fm w (by show 30 + 3 ≤ 1000; decide) fun vs11 l11 H11 s11 e11 y11 => ?_⟩⟩
    have z11 := Same.tr z10 s11
    refine ⟨_, rfl, i, ve rfl z11, fun ws G g w => ⟨by rw [w.len]; exact ln (by show 3 ≤ 1000; decide), fun m fm => cat_da y11 e11 g fm w (by show 33 + 3 ≤ 1000; decide) fun vs12 l12 H12 s12 e12 y12 => ?_⟩⟩
    have z12 := Same.tr z11 s12
    refine ⟨_, rfl, i, ve rfl z12, fun ws G g w => ⟨by rw [w.len]; exact ln (by show 3 ≤ 1000; decide), fun m fm => cat_da y12 e12 g fm w (by show 36 + 3 ≤ 1000; decide) fun vs13 l13 H13 s13 e13 y13 => ?_⟩⟩
    have z13 := Same.tr z12 s13
    refine ⟨_, rfl, i, ve rfl z13, fun ws G g w => ⟨by rw [w.len]; exact ln (by show 1 ≤ 1000; decide), fun m fm => cat_da y13 e13 g fm w (by show 39 + 1 ≤ 1000; decide) fun vs14 l14 H14 s14 e14 y14 => ?_⟩⟩
    have z14 := Same.tr z13 s14
    exact k l14 _ H14 z14 e14 y14
end
end K00

set_option Elab.async false
set_option linter.all false
set_option maxRecDepth 100000
set_option maxHeartbeats 4000000
namespace K00
open PySem PySem.Spec PyProof.Rows L2 GX
theorem gd_dict {d : PyData} (g : Gd 40 3 d) : Gd 200 10 (.dict [(.str "a", d)]) := by
  refine ⟨?_, ?_, ?_⟩
  · simp only [wt, wtK]
    have := g.w
    have e : ("a" : Str).length = 1 := rfl
    omega
  · simp only [PyData.depth, PyData.depthKv]
    have := g.dp
    omega
  · simp only [asc, ascK, g.as]
    decide +kernel
section
variable {P : Program} {w : World} {K : PySem.W.Frag} {mg : Str → Option Value} {base : Heap} {f fI : Addr} {fd : FuncData} {Cf : Nat → Addr}
def spRight : Sp := fun vs H Q _ => ∃ (p : Addr) (o : HO), vs = [.ref p] ∧ H p = some o ∧ PotO 0 o ∧ ∀ H', Bt p H H' → Q (.bl true) H'
abbrev s_right : Stmt := top 51
abbrev N_right : List Str := ["_law_pot_here", "_law_some", "_law_value", "_law_made", "_law_at", "_law_error", "_law_place", "_law_base"]
abbrev p_right : List Str := ["_law_pot_here"]
theorem sc_right : FnScope N_right p_right (defScope s_right) := ⟨rfl, rfl, rfl, by decide +kernel, rfl, by decide +kernel, by decide +kernel⟩
theorem ok_right (KS : KSys K) (er : Er K mg fI Cf) (iN : IN P w K mg base fI) (F : FnP K "_law_right" s_right f fd) (nb : NB mg) (c__law_of : CalG P w K mg base CX0 2 "_law_of" (spOf K)) (c__law_odd : CalG P w K mg base CX0 3 "_law_odd" spOdd) (c__law_bent : CalG P w K mg base CX0 6 "_law_bent" (spBent 2))
    (c__law_all : CalG P w K mg base CX0 3 "_law_all" (spAll Cf)) (c__law_marks : CalG P w K mg base CX0 1 "_law_marks" (spMarks K fI Cf)) : FnG P w K mg base CX0 7 f fd p_right spRight := by
  refine fnG0 F sc_right (fun vs H Q E h => ?_) (fun cdv A outer s H vs Q E hr h => ?_)
  · obtain ⟨p, o, rfl, _⟩ := h
    rfl
  · obtain ⟨p, o, rfl, hp, po, k⟩ := h
    refine ⟨_, (pss_cons (ps_set (i := 1) sc_right.nd rfl (Or.inl rfl) (pe_lst (pa_cons (pe_cG c__law_odd hr (by omega) pass0 (pa_cons (pv 0) pa_nil)) (pa_cons (pe_cG c__law_bent hr (by omega) pass0 (pa_cons (pv 0) (pa_cons (pe_tup (pa_cons (pe_tup (pa_cons pe_str (pa_cons pe_str pa_nil))) (pa_cons pe_int pa_nil))) pa_nil))) (pa_cons (pe_fz (pe_lst (pa_cons (pe_cG c__law_odd hr (by omega) pass0 (pa_cons (pv 0) pa_nil)) pa_nil))) pa_nil)))))
  (pss_cons (ps_set (i := 2) sc_right.nd rfl (Or.inl rfl) (pe_cG c__law_of hr (by omega) pass0 (pa_cons (pv 0) (pa_cons (pe_op op_addA (pv 1) (pe_lst (pa_cons (pe_fz (pe_disp (pps_cons pe_str (pe_cG c__law_odd hr (by omega) pass0 (pa_cons (pv 0) pa_nil)) pps_nil) rfl rfl (by simp) (by decide))) pa_nil))) pa_nil))))
  (pss_cons (ps_set (i := 3) sc_right.nd rfl (Or.inl rfl) (pe_cG c__law_all hr (by omega) pass0 (pa_cons (pv 2) pa_nil)))
  (pss_cons (ps_for PassesOwn.never rfl (pi_enum rfl nb.enumerate (pa_cons (pv 3) pa_nil)) (pg_tup rfl (pgs_cons (pg_name (i := 4) sc_right.nd rfl (Or.inr rfl)) (pgs_cons (pg_name (i := 5) sc_right.nd rfl (Or.inl rfl)) pgs_nil))) (pss_cons (ps_if (PW.pt (pw_or (pt_not (pt_val (pe_callB (call_isiA) rfl nb.isinstance bt_isinstance (pa_cons (pv 5) (pa_cons (pe_own (er.e_DialError).hm) pa_nil))))) (pw_or1 (pt_not (pt_val (pe_callB (call_isiA) rfl nb.isinstance bt_isinstance (pa_cons (pv 5) (pa_cons (pe_ty nb.VE bt_VE) pa_nil)))))))) (pss_one (ps_ret pe_bl)) pss_nil)
  (pss_one (ps_if (PW.pt (pw_or (pt_cmpR (op_neA hr.u64) (pe_callB (call_repr KS hr.gd hr.units) rfl nb.repr bt_repr (pa_cons (pe_exA (pv 5)) pa_nil)) (pe_callB (call_repr KS hr.gd hr.units) rfl nb.repr bt_repr (pa_cons (pv 2) pa_nil)) (nomark _)) (pw_or1 (pt_cmpR (op_neX KS hr.u64) (pe_cG c__law_marks hr (by omega) pass0 (pa_cons (pv 5) pa_nil)) (pe_lc (own := [("_law_place", 6)]) (tt := tYes) rfl sc_right.nd (pi_range1 rfl nb.range (pa_cons (pe_callB (call_len) rfl nb.len bt_len (pa_cons (pv 3) pa_nil)) pa_nil)) (blkOk_by (N := N_right) (sc := defScope s_right) (by decide +kernel)) (fun _ _ _ _ _ => pg_name (i := 6) sc_right.nd rfl (Or.inl rfl)) (fun _ _ _ _ _ => pts_nil) (fun _ _ _ _ _ => (pe_cmpR (show OpR _ _ (rEqA K) from op_eqA hr.u64) (pv 4) (pv 6) (nomark _)))) (nomark _))))) (pss_one (ps_ret pe_bl)) pss_nil))))
  (pss_cons (ps_set (i := 7) sc_right.nd rfl (Or.inl rfl) (pe_ex er.e_DialError iN hr (by omega) (pa_cons (pv 2) pa_nil)))
  (pss_one (ps_ret (pe_and (pe_cmpR (op_eqA hr.u64) (pe_callB (call_repr KS hr.gd hr.units) rfl nb.repr bt_repr (pa_cons (pe_exA (pv 7)) pa_nil)) (pe_callB (call_repr KS hr.gd hr.units) rfl nb.repr bt_repr (pa_cons (pv 2) pa_nil)) (nomark _)) (pe_and (pe_callB (call_isiA) rfl nb.isinstance bt_isinstance (pa_cons (pv 7) (pa_cons (pe_ty nb.VE bt_VE) pa_nil))) (pe_one (pe_not (pe_callB (cr_any rfl) rfl nb.any bt_any (pa_cons (pe_cG c__law_marks hr (by omega) pass0 (pa_cons (pv 7) pa_nil)) pa_nil))))))))))))), ?_⟩
    -- the draws
    refine ⟨_, rfl, p, 0, o, rfl, hp, po, by decide, fun Ha oa va da ba hpa poa dva ga => ?_⟩
    refine ⟨_, rfl, ?_⟩
    refine (ev_tup (ev_cons (ev_tup (ev_cons ev_str (ev_cons ev_str ev_nil))) (ev_cons ev_int ev_nil)) : EvD _ _ Ha (.tuple [.tuple [.str "x", .str "a"], .int 3])) Ha _ (Same.rf Ha) fun vb Hb sb db => ?_
    have hpb := sb _ _ hpa
    refine ⟨p, 1, oa, vb, _, 25, rfl, hpb, poa, by decide, db, by decide, gdB_ok (by decide +kernel), by decide +kernel, fun Hc oc vc dc bc hpc poc dvc gc => ?_⟩
    refine ⟨_, rfl, p, 7, oc, rfl, hpc, poc, by decide, fun Hd od vd dd bd hpd pod dvd gd => ⟨by show 1 ≤ sizeLine; decide, fun q fq => ⟨q, _, rfl, upd_same, rfl, fun ob => ⟨by show 3 ≤ sizeLine; decide, fun l1 f1 => ?_⟩⟩⟩⟩
    have sd := same_fz (u := .lst [vd]) (w := .frz ob (.lst [vd])) fq
    generalize hE : upd (upd Hd q (.lst [vd])) q (.frz ob (.lst [vd])) = He at sd f1 ⊢
    have dq : D (Per He) (.ref q) (.list [dd]) := .lst (.inr ⟨ob, by rw [← hE]; exact upd_same⟩) (.cons (dvd.sm sd) .nil)
    have sl := Same.new (o := .lst [va, vc, .ref q]) f1
    generalize hF : upd He l1 (.lst [va, vc, .ref q]) = Hl at sl ⊢
    have el : Hl l1 = some (.lst [va, vc, .ref q]) := by rw [← hF]; exact upd_same
    have hpl := sl _ _ (sd _ _ hpd)
    refine ⟨_, rfl, _, rfl, fun pd fpd => ⟨_, rfl, p, 8, od, rfl, ?_, pod, by decide, fun Hf og vf df bf hpf pof dvf gf => ?_⟩⟩
    · exact Same.new fpd _ _ hpl
    have np : pd ≠ p := fun z => ne_of_none hpl fpd z.symm
    have ef : Hf pd = some (.dK []) := bf _ _ np upd_same
    refine ⟨ef, [(.inr "a", vf)], rfl, (by show 1 ≤ 15; decide), ⟨pd, _, rfl, upd_same, rfl, fun ob2 => ⟨by show 1 ≤ sizeLine; decide, fun l2 f2 => ?_⟩⟩⟩
    have mo := Mo.over (x := .dK (mergeK [] [(.inr "a", vf)])) (y := .frz ob2 (.dK (mergeK [] [(.inr "a", vf)]))) ef rfl
    have bo : ∀ b, b ≠ pd → upd (upd Hf pd (.dK (mergeK [] [(.inr "a", vf)]))) pd (.frz ob2 (.dK (mergeK [] [(.inr "a", vf)]))) b = Hf b := fun b n => by rw [upd_ne n, upd_ne n]
    have ed : upd (upd Hf pd (.dK (mergeK [] [(.inr "a", vf)]))) pd (.frz ob2 (.dK (mergeK [] [(.inr "a", vf)]))) pd = some (.frz ob2 (.dK [(.inr "a", vf)])) := upd_same
    generalize hG : upd (upd Hf pd (.dK (mergeK [] [(.inr "a", vf)]))) pd (.frz ob2 (.dK (mergeK [] [(.inr "a", vf)]))) = Hg at f2 mo bo ed ⊢
    have nl : l1 ≠ p := fun z => ne_of_none (sd _ _ hpd) f1 z.symm
    have nlp : l1 ≠ pd := ne_of_none el fpd
    have eg : Hg l1 = some (.lst [va, vc, .ref q]) := by
      rw [bo l1 nlp]
      exact bf _ _ nl (by rw [upd_ne nlp]; exact el)
    have hpg : Hg p = some og := by
      rw [bo p (Ne.symm np)]
      exact hpf
    refine cat_lst eg (Same.rf Hg) f2 (by show 3 + 1 ≤ sizeLine; decide) fun l3 H3 s3 e3 => ?_
    have sg : Same Hg H3 := s3
    have hp3 := sg _ _ hpg
    -- what stands in the list
    have m1 : Mo Hl Hg := Mo.trans (Same.mo (Same.new fpd)) (Mo.trans (Bt.mo bf (Same.new fpd _ _ hpl) pod.imm) mo)
    have m2 : Mo He Hg := Mo.trans (Same.mo sl) m1
    have m3 : Mo Hd Hg := Mo.trans (Same.mo sd) m2
    have m4 : Mo Hc Hg := Mo.trans (Bt.mo bd hpc poc.imm) m3
    have m5 : Mo Ha Hg := Mo.trans (Same.mo sb) (Mo.trans (Bt.mo bc hpb poa.imm) m4)
    have dva3 : D (Per Hg) va da := D.mono (Per.mo m5) dva
    have dvc3 : D (Per Hg) vc dc := D.mono (Per.mo m4) dvc
    have dq3 : D (Per Hg) (.ref q) (.list [dd]) := D.mono (Per.mo m2) dq
    have dd3 : D (Per Hg) (.ref pd) (.dict [(.str "a", df)]) := .dic (.inr ⟨ob2, ed⟩) (.cons (D.mono (Per.mo mo) dvf) .nil)
    have n3 : l3 ≠ p := fun z => by
      rw [z, hp3] at e3
      cases e3
      exact absurd pof.imm (by obtain ⟨a, b, e, h1, _⟩ := pof; cases h1)
    have all : DA (Per H3) [va, vc, .ref q, .ref pd] [da, dc, .list [dd], .dict [(.str "a", df)]] := .cons (dva3.sm sg) (.cons (dvc3.sm sg) (.cons (dq3.sm sg) (.cons (dd3.sm sg) .nil)))
    have sizes : ∀ d ∈ [da, dc, PyData.list [dd], .dict [(.str "a", df)]], Gd 200 10 d := by
      intro d hd
      simp only [List.mem_cons, List.not_mem_nil, or_false] at hd
      rcases hd with rfl | rfl | rfl | rfl
      · exact ga.mono (by decide) (by decide)
      · exact gc.mono (by decide) (by decide)
      · exact (GdA.lst (GdA.one gd)).mono (by decide) (by decide)
      · exact gd_dict gf
    refine ⟨p, l3, 9, og, [va, vc, .ref q, .ref pd], rfl, hp3, pof, by decide, n3, .inl (SqL.of e3), by show 1 ≤ 4; decide, by show 4 ≤ 1000; decide, fun H4 o4 v b4 hp4 po4 hv => ?_⟩
    obtain ⟨d, hd, dv3⟩ := all.mem hv
    have gv := sizes d hd
    have dv : D (Per H4) v d := D.mono (Per.mo (Bt.mo b4 hp3 pof.imm)) dv3
    have bl : Bt p H Hl := Bt.trans ba (Bt.trans (Same.bt sb) (Bt.trans bc (Bt.trans bd (Same.bt (Same.tr sd sl)))))
    have bt : Bt p H H4 := fun a u na e => by
      have e1 := bl a u na e
      have npd := ne_of_none e1 fpd
      have e2 := bf a u na (by rw [upd_ne npd]; exact e1)
      exact b4 a u na (sg _ _ (by rw [bo a npd]; exact e2))
    -- the errors
    clear all dva3 dvc3 dq3 dd3 m1 m2 m3 m4 m5 sizes
    refine ⟨_, rfl, v, rfl, fun lm xm Hm sm em xl => ?_⟩
    have dm := dv.sm sm
    have W0 : ∀ H', Same Hm H' → D (Per H') v d := fun H' s => dm.sm s
    have gr : Gd 1900 60 d := gv.mono (by decide) (by decide)
    refine ⟨_, rfl, lm, xm, rfl, SqL.of em, fun i m σ H' => i + m = 40 ∧ Same Hm H' ∧ ∃ x4 x5 x6 x7 : Option V, σ = [some (.ref p), some (.ref l1), some v, some (.ref lm), x4, x5, x6, x7], ⟨40, rfl, Same.rf Hm, none, none, none, none, rfl⟩, ?_⟩
    rintro i m σ Hi ⟨him, si, x4, x5, x6, x7, rfl⟩
    by_cases hlt : i < 40
    · obtain ⟨e, ei, ea⟩ := xl.get (i := i) (C := Cf (i + 1)) (by simp [hlt])
      refine .inr ⟨⟨xm, _, SqL.of (si _ _ em), ei⟩, fun σ' H' => ∃ x4 x5 x6 x7 : Option V, Same Hm H' ∧ σ' = [some (.ref p), some (.ref l1), some v, some (.ref lm), x4, x5, x6, x7], ?_, ?_⟩
      · rintro σ' H' ⟨y4, y5, y6, y7, s', rfl⟩
        exact ⟨39 - i, by omega, by omega, s', y4, y5, y6, y7, rfl⟩
      · rintro x H' ⟨T, x', rfl, fT, rfl, hx⟩
        have hx' : x' = .ref e := by
          have z := hx xm (SqL.of (si _ _ em))
          rw [ei] at z
          exact (Option.some.inj z).symm
        subst hx'
        have sT := Same.new (o := .tup [.int (i : Nat), .ref e]) fT
        refine ⟨T, _, rfl, .inl (.inl upd_same), rfl, _, _, rfl, _, _, rfl, rfl, ?_⟩
        have tf := (er.e (i + 1) (by omega)).f
        have s5 : Same Hm (upd Hi T (.tup [.int (i : Nat), .ref e])) := Same.tr si sT
        have eaT := ea.mo (Same.mo s5)
        refine ⟨_, rfl, .inr ⟨e, Cf (i + 1), fI, _, _, _, true, rfl, .own _, eaT, tf, er.kd (i + 1) (by omega) (by omega), ⟨_, rfl, ifF ?_⟩⟩⟩
        refine ⟨_, rfl, .inr ⟨e, Cf (i + 1), fI, _, _, _, true, rfl, .ty "ValueError", eaT, tf, er.kv (i + 1) (by omega), ⟨_, rfl, ifF ?_⟩⟩⟩
        refine ⟨_, rfl, e, Cf (i + 1), fI, _, v, rfl, eaT, tf, tf.noV, rfl, ?_⟩
        refine ⟨v, d, rfl, (W0 _ s5).now, gr, ⟨_, rfl, v, d, rfl, (W0 _ s5).now, gr, .inl ⟨rfl, ⟨_, rfl, ifF1 (by simp) ?_⟩⟩⟩⟩
        refine ⟨_, rfl, e, _, i + 1, rfl, by omega, eaT, fun lk xk Hk sk ek dk => ?_⟩
        have s6 : Same Hm Hk := Same.tr s5 sk
        refine ⟨_, rfl, _, 40, rfl, .inl ⟨xm, SqL.of (s6 _ _ em), by rw [xl.len]; simp⟩, (40 : Int), rfl, by decide, by decide, fun D fD => ?_⟩
        refine lc_range (lo := 0) (n := 40) (fun i' H' => Same Hk H' ∧ H' D = some (.lst ((List.range i').map fun j => V.bl (decide (V.int (i : Nat) = V.int (j : Nat)))))) ⟨Same.new fD, upd_same⟩ (fun j H' hj hP => ?_) (fun H' hP => ?_)
        · obtain ⟨sj, ej⟩ := hP
          refine ⟨rfl, ifT (q := True) ⟨_, rfl, _, rfl, .inl ⟨rfl, _, ej, by simp; exact Nat.lt_of_lt_of_le hj (by decide), ?_, ?_⟩⟩⟩
          · exact fun b u eb => by
              rw [upd_ne (fun z => by subst z; rw [fD] at eb; cases eb)]
              exact sj _ _ eb
          · rw [upd_same, List.range_succ, List.map_append]
            simp
        · obtain ⟨sj, ej⟩ := hP
          have s7 : Same Hm H' := Same.tr s6 sj
          refine ⟨.list (marks (i + 1)), .list (marks (i + 1)), .lst (show SqL _ _ _ _ from SqL.of (sj _ _ ek)) ?_, .lst (show SqL _ _ _ _ from SqL.of ej) ?_, shaped_bls _, shaped_bls _, ⟨_, rfl, ifF1 ?_ ?_⟩⟩
          · rw [DA.bls (bs := mk (i + 1)) dk]
            exact bls_da _
          · have eb : ((List.range 40).map fun j => V.bl (decide (V.int (i : Nat) = V.int (j : Nat)))) = (mk (i + 1)).map V.bl := by
              unfold mk
              rw [List.map_map]
              refine List.map_congr_left fun j _ => ?_
              show V.bl (decide (V.int (i : Nat) = V.int (j : Nat))) = V.bl (decide (i + 1 = j + 1))
              congr 1
              refine decide_eq_decide.mpr ⟨fun z => ?_, fun z => ?_⟩
              · have z2 : ((i : Nat) : Int) = (j : Nat) := V.int.inj z
                omega
              · have z2 : i = j := by omega
                rw [z2]
            rw [eb]
            exact bls_da _
          · rw [marks, eqv_bls]
            rfl
          · exact ⟨_, _, _, _, s7, rfl⟩
    · have h40 : i = 40 := by omega
      subst h40
      refine .inl ⟨⟨xm, SqL.of (si _ _ em), by rw [xl.len]; simp⟩, ?_⟩
      show tAsg (tMkV (Cf 0) (spInit K) E0 (tCons (tVar 2) tNil)) (gName 7) _ [some (.ref p), some (.ref l1), some v, some (.ref lm), x4, x5, x6, x7] Hi
      show tMkV (Cf 0) (spInit K) E0 (tCons (tVar 2) tNil) [some (.ref p), some (.ref l1), some v, some (.ref lm), x4, x5, x6, x7] Hi _
      refine (ee_mk (E := E0) (σ := [some (.ref p), some (.ref l1), some v, some (.ref lm), x4, x5, x6, x7]) (i := 2) er.e_DialError.f rfl) Hi _ (Same.rf Hi) fun e0 H5 s5 x5 => ?_
      have tf := er.e_DialError.f
      have s6 : Same Hm H5 := Same.tr si s5
      refine ⟨_, rfl, e0, Cf 0, fI, _, v, rfl, x5, tf, tf.noV, rfl, ?_⟩
      refine ⟨v, d, rfl, (W0 _ s6).now, gr, ⟨_, rfl, v, d, rfl, (W0 _ s6).now, gr, .inl ⟨rfl, ⟨_, rfl, ifT1 (by simp) ?_⟩⟩⟩⟩
      refine ⟨_, rfl, .inr ⟨e0, Cf 0, fI, _, _, _, true, rfl, .ty "ValueError", x5, tf, er.kv 0 (by omega), ⟨_, rfl, ifT (q := True) ?_⟩⟩⟩
      refine ⟨_, rfl, e0, _, 0, rfl, by decide, x5, fun lk xk Hk sk ek dk => ⟨lk, mk 0, rfl, ?_, ⟨_, rfl, ?_⟩⟩⟩
      · rw [← DA.bls (bs := mk 0) dk]
        exact SqL.of ek
      · have e0 : (!(mk 0).any id) = true := by decide +kernel
        rw [e0]
        exact k Hk (Bt.trans bt (Same.bt (Same.tr sm (Same.tr s6 sk))))
end
end K00

set_option Elab.async false
set_option linter.all false
set_option maxRecDepth 100000
set_option maxHeartbeats 4000000
namespace K00
open PySem PySem.Spec PyProof.Rows L2 GX
section
variable {P : Program} {w : World} {K : PySem.W.Frag} {mg : Str → Option Value} {base : Heap} {f : Addr} {fd : FuncData}
def spLaw (K : PySem.W.Frag) : Sp := fun vs H Q _ => ∃ (a : Addr) (ns : List Int), vs = [.ref a] ∧ SqL K H a (ns.map V.int) ∧ ∀ H', Q (.bl true) H'
abbrev s_law : Stmt := top 52
abbrev N_law : List Str := ["_law_script", "_law_place"]
abbrev p_law : List Str := ["_law_script"]
theorem sc_law : FnScope N_law p_law (defScope s_law) := ⟨rfl, rfl, rfl, by decide +kernel, rfl, by decide +kernel, by decide +kernel⟩
theorem ok_law (F : FnP K "law" s_law f fd) (nb : NB mg) (c__law_places : CalG P w K mg base CX0 1 "_law_places" (spPlaces K)) (c__law_pot : CalG P w K mg base CX0 1 "_law_pot" (spPot K)) (c__law_right : CalG P w K mg base CX0 7 "_law_right" spRight) : FnG P w K mg base CX0 8 f fd p_law (spLaw K) := by
  refine fnG0 F sc_law (fun vs H Q E h => ?_) (fun cdv A outer s H vs Q E hr h => ?_)
  · obtain ⟨a, ns, rfl, _⟩ := h
    rfl
  · obtain ⟨a, ns, rfl, hS, k⟩ := h
    refine ⟨_, (pss_one (ps_ret (pe_callB (cr_all rfl) rfl nb.all bt_all (pa_cons (pe_lc (own := [("_law_place", 1)]) (tt := tYes) rfl sc_law.nd (pi_list (pe_cG c__law_places hr (by omega) pass0 (pa_cons (pv 0) (pa_cons pe_int pa_nil)))) (blkOk_by (N := N_law) (sc := defScope s_law) (by decide +kernel)) (fun _ _ _ _ _ => pg_name (i := 1) sc_law.nd rfl (Or.inl rfl)) (fun _ _ _ _ _ => pts_nil) (fun _ _ _ _ _ => (pe_cG c__law_right hr (by omega) pass0 (pa_cons (pe_cG c__law_pot hr (by omega) pass0 (pa_cons (pv 0) (pa_cons (pv 1) pa_nil))) pa_nil)))) pa_nil)))), ?_⟩
    refine ⟨_, rfl, a, ns, 4, rfl, hS, by decide, by decide, fun l n fl n1 n4 => ?_⟩
    refine ⟨l, rfl, ⟨_, SqL.of upd_same⟩, fun D fD => ?_⟩
    have s0 : Same H (upd H l (.lst (rgV 0 n))) := Same.new fl
    have el : upd H l (.lst (rgV 0 n)) l = some (.lst (rgV 0 n)) := upd_same
    have ln : (rgV 0 n).length ≤ 4 := by
      rw [rgV_length]
      omega
    have sqs : ∀ {H'}, Same H H' → SqL K H' a (ns.map V.int) := fun {H'} s => by
      rcases hS with (h | ⟨ob, h⟩) | h
      · exact .inl (.inl (s _ _ h))
      · exact .inl (.inr ⟨ob, s _ _ h⟩)
      · exact .inr h
    refine lc_list (xs := rgV 0 n) (fun i H' => Same (upd H l (.lst (rgV 0 n))) H' ∧ H' D = some (.lst ((List.replicate i true).map V.bl))) ⟨Same.new fD, upd_same⟩ (fun i H' _ hP => SqL.of (hP.1 _ _ el)) (fun i x H' hx hP => ?_) (fun H' hP => ?_)
    · obtain ⟨si, ei⟩ := hP
      have hi : i < (rgV 0 n).length := by
        rcases Nat.lt_or_ge i (rgV 0 n).length with h | h
        · exact h
        · rw [List.getElem?_eq_none h] at hx
          cases hx
      have ex : x = .int (i : Nat) := by
        have z : (rgV 0 n)[i]? = some (V.int (0 + (i : Nat))) := by
          have h2 : i < (n - 0).toNat := by
            rw [rgV_length] at hi
            exact hi
          unfold rgV
          rw [List.getElem?_map, List.getElem?_range h2]
          rfl
        rw [hx, Int.zero_add] at z
        exact Option.some.inj z
      subst ex
      refine ⟨rfl, ifT (q := True) ⟨_, rfl, _, rfl, a, ns, (i : Nat), rfl, sqs (Same.tr s0 si), by omega, by omega, fun p o fp po => ⟨p, o, rfl, upd_same, po, fun H2 b => ?_⟩⟩⟩
      have nD : D ≠ p := ne_of_none ei fp
      have e2 : H2 D = some (.lst ((List.replicate i true).map V.bl)) := b _ _ nD (by rw [upd_ne nD]; exact ei)
      refine ⟨_, e2, by simp; exact Nat.lt_of_lt_of_le (Nat.lt_of_lt_of_le hi ln) (by decide), ?_, ?_⟩
      · intro c u ec
        have nc : c ≠ D := fun z => by
          rw [z, fD] at ec
          cases ec
        rw [upd_ne nc]
        have e3 := si _ _ ec
        have np : c ≠ p := ne_of_none e3 fp
        exact b _ _ np (by rw [upd_ne np]; exact e3)
      · rw [upd_same, List.replicate_succ', List.map_append]
        rfl
    · obtain ⟨si, ei⟩ := hP
      refine ⟨D, _, rfl, SqL.of ei, ?_⟩
      have e : (List.replicate (rgV 0 n).length true).all id = true := by simp
      rw [e]
      exact k H'
end
end K00

set_option Elab.async false
set_option linter.all false
set_option maxRecDepth 100000
set_option maxHeartbeats 0
namespace K00
open PySem PySem.Spec PyProof.Rows L2 GX
abbrev R : PySem.W.OpenRow := PySem.W.OpenLaw.row PySem.Challenge.rw_dialsums_k00_errors_keep_their_values
def defs : List (Nat × Str) := [(43, "_law_pot"), (44, "_law_take"), (45, "_law_of"), (46, "_law_places"), (47, "_law_odd"), (48, "_law_bent"), (49, "_law_all"), (50, "_law_marks"), (51, "_law_right"), (52, "law")]
def dOf (p : Nat × Str) : He.DefD := ⟨(p.2, none), p.2, p.2, defArgs (top p.1), defBody (top p.1), defScope (top p.1), [], []⟩
def dInit : He.DefD := ⟨("DialError", some "__init__"), "__init__", "DialError.__init__", defArgs s_init, defBody s_init, defScope s_init, [], []⟩
def fn : List He.DefD := dInit :: defs.map dOf
def loose : List Str := enames ++ (("_law_pot" : Str) :: "_law_take" :: "_law_of" :: "_law_places" :: "_law_odd" :: "_law_bent" :: "_law_all" :: "_law_marks" :: "_law_right" :: [])
def builtins : List Str := ("len" : Str) :: "abs" :: "int" :: "bool" :: "str" :: "tuple" :: "list" :: "dict" :: "set" :: "repr" :: "isinstance" :: "range" :: "enumerate" :: "zip" :: "sorted" :: "sum" :: "max" :: "min" :: "all" :: "any" :: "ValueError" :: []
def fa : List He.Fa := enames.map He.Fa.glo ++ (defs.map fun p => He.Fa.glo p.2) ++ builtins.map He.Fa.free
def errA (K : PySem.W.Frag) (i : Nat) : Addr := He.ga K (enames.getD i "")
def fIa (K : PySem.W.Frag) : Addr := He.ma K (He.ga K "DialError") "__init__"
def xbi (K : PySem.W.Frag) (i : Nat) : Bool := excB K (errA K i) (fIa K) && (decide (PySem.W.kitOne K (.ref (errA K i)) (.type "ValueError") = some true) && (decide (PySem.W.kitOne K (.ref (errA K i)) (.ref (errA K 0)) = some true) &&
  (List.range 40).all fun j => decide (PySem.W.kitOne K (.ref (errA K i)) (.ref (errA K (j + 1))) = some (decide (i = j + 1)))))
def xb (K : PySem.W.Frag) : Bool := (List.range 41).all (xbi K)
abbrev hk : PySem.W.Hook := hookX 5 xb fa fn
def ob (s : PySem.W.SharedT) : He.AlD := obsXG 5 xb fa fn (HandSHeadRun.getT s)
theorem ob_eq (s : PySem.W.SharedT) : ob s = hk.obs s.abs := obsXG_eq (HandSHeadRun.getT_eq s)
theorem run (w : World) : HandSHeadRun.RunEq R (PySem.W.view R.prog [52]) hk ob 20000 loose w := by
  intro os
  kernel_rfl
end K00

set_option Elab.async false
set_option linter.all false
set_option maxRecDepth 100000
set_option maxHeartbeats 4000000
namespace K00
open PySem PySem.Spec PyProof.Rows L2 GX
section
variable {P : Program} {w : World} {K : PySem.W.Frag} {h : Heap} {mg : Str → Option Value}
theorem nb_of (X : K.In h) (G : h.Ns mainGlobals mg) (c : He.SaysD fa fn K) : NB mg := by
  have fr : ∀ (i : Nat) (x : Str), fa[i]? = some (He.Fa.free x) → mg x = none := fun i x e => He.free_ok X G (c.fact i e)
  exact ⟨fr 51 _ rfl, fr 52 _ rfl, fr 53 _ rfl, fr 54 _ rfl, fr 55 _ rfl, fr 56 _ rfl, fr 57 _ rfl, fr 58 _ rfl, fr 59 _ rfl, fr 60 _ rfl, fr 61 _ rfl, fr 62 _ rfl, fr 63 _ rfl, fr 64 _ rfl, fr 65 _ rfl, fr 66 _ rfl, fr 67 _ rfl, fr 68 _ rfl, fr 69 _ rfl, fr 70 _ rfl, fr 71 _ rfl⟩
theorem fa_err {j : Nat} (h : j < 41) : fa[j]? = some (He.Fa.glo (enames.getD j "")) := by
  have hl : j < enames.length := h
  unfold fa
  rw [List.append_assoc, List.getElem?_append_left (by rw [List.length_map]; exact hl), List.getElem?_map, List.getElem?_eq_getElem hl]
  show some (He.Fa.glo enames[j]) = some (He.Fa.glo (enames.getD j ""))
  rw [List.getD_eq_getElem?_getD, List.getElem?_eq_getElem hl]
  rfl
theorem er_of (X : K.In h) (G : h.Ns mainGlobals mg) (c : He.SaysD fa fn K) (x : xb K = true) : Er K mg (fIa K) (errA K) := by
  have pt : ∀ i, i < 41 → xbi K i = true := fun i hi => List.all_eq_true.mp x i (List.mem_range.mpr hi)
  refine ⟨fun j hj => ⟨?_, He.glo_ok X G (c.fact j (fa_err hj))⟩, fun i hi j h1 hj => ?_, fun i h1 hi => ?_, fun i hi => ?_⟩
  · exact excB_ok (He.ba (pt j hj)).1
  · obtain ⟨_, h2⟩ := He.ba (pt i hi)
    obtain ⟨_, h3⟩ := He.ba h2
    obtain ⟨_, h4⟩ := He.ba h3
    obtain ⟨j', rfl⟩ : ∃ j', j = j' + 1 := ⟨j - 1, by omega⟩
    exact of_decide_eq_true (List.all_eq_true.mp h4 j' (List.mem_range.mpr (by omega)))
  · exact of_decide_eq_true (He.ba (He.ba (He.ba (pt i hi)).2).2).1
  · exact of_decide_eq_true (He.ba (He.ba (pt i hi)).2).1
theorem facts {f : Addr} (X : K.In h) (G : h.Ns mainGlobals mg) (hfa : mg ("law" : Str) = some (.ref f)) (cx : SaysX xb fa fn K) :
    ∃ fd : FuncData, (∀ (s : Shared) (v : Value), BindsTo s fd ⟨[v], []⟩ [("_law_script", v)]) ∧ ∀ base : Heap, K.In base → base.Ns mainGlobals mg → FnG P w K mg base CX0 8 f fd ["_law_script"] (spLaw K) := by
  obtain ⟨c, ks, x⟩ := cx.base
  have KS := ksys_ok ks
  have nb := nb_of X G c
  have er := er_of X G c x
  obtain ⟨fdi, Fi⟩ := c.def_ 0 (d := dInit) rfl
  obtain ⟨fd_pot, F_pot⟩ := c.def_ 1 (d := dOf (43, "_law_pot")) rfl
  have g_pot := He.glo_ok X G (c.fact 41 (f := .glo "_law_pot") rfl)
  have b_pot : Binds K fd_pot p_pot [] := F_pot.bindsN fun _ _ _ _ _ _ us hl => match us, hl with | [_, _], _ => rfl
  obtain ⟨fd_take, F_take⟩ := c.def_ 2 (d := dOf (44, "_law_take")) rfl
  have g_take := He.glo_ok X G (c.fact 42 (f := .glo "_law_take") rfl)
  have b_take : Binds K fd_take p_take [] := F_take.bindsN fun _ _ _ _ _ _ us hl => match us, hl with | [_, _], _ => rfl
  obtain ⟨fd_of, F_of⟩ := c.def_ 3 (d := dOf (45, "_law_of")) rfl
  have g_of := He.glo_ok X G (c.fact 43 (f := .glo "_law_of") rfl)
  have b_of : Binds K fd_of p_of [] := F_of.bindsN fun _ _ _ _ _ _ us hl => match us, hl with | [_, _], _ => rfl
  obtain ⟨fd_places, F_places⟩ := c.def_ 4 (d := dOf (46, "_law_places")) rfl
  have g_places := He.glo_ok X G (c.fact 44 (f := .glo "_law_places") rfl)
  have b_places : Binds K fd_places p_places [] := F_places.bindsN fun _ _ _ _ _ _ us hl => match us, hl with | [_, _], _ => rfl
  obtain ⟨fd_odd, F_odd⟩ := c.def_ 5 (d := dOf (47, "_law_odd")) rfl
  have g_odd := He.glo_ok X G (c.fact 45 (f := .glo "_law_odd") rfl)
  have b_odd : Binds K fd_odd p_odd [] := F_odd.bindsN fun _ _ _ _ _ _ us hl => match us, hl with | [_], _ => rfl
  obtain ⟨fd_bent, F_bent⟩ := c.def_ 6 (d := dOf (48, "_law_bent")) rfl
  have g_bent := He.glo_ok X G (c.fact 46 (f := .glo "_law_bent") rfl)
  have b_bent : Binds K fd_bent p_bent [] := F_bent.bindsN fun _ _ _ _ _ _ us hl => match us, hl with | [_, _], _ => rfl
  obtain ⟨fd_all, F_all⟩ := c.def_ 7 (d := dOf (49, "_law_all")) rfl
  have g_all := He.glo_ok X G (c.fact 47 (f := .glo "_law_all") rfl)
  have b_all : Binds K fd_all p_all [] := F_all.bindsN fun _ _ _ _ _ _ us hl => match us, hl with | [_], _ => rfl
  obtain ⟨fd_marks, F_marks⟩ := c.def_ 8 (d := dOf (50, "_law_marks")) rfl
  have g_marks := He.glo_ok X G (c.fact 48 (f := .glo "_law_marks") rfl)
  have b_marks : Binds K fd_marks p_marks [] := F_marks.bindsN fun _ _ _ _ _ _ us hl => match us, hl with | [_], _ => rfl
  obtain ⟨fd_right, F_right⟩ := c.def_ 9 (d := dOf (51, "_law_right")) rfl
  have g_right := He.glo_ok X G (c.fact 49 (f := .glo "_law_right") rfl)
  have b_right : Binds K fd_right p_right [] := F_right.bindsN fun _ _ _ _ _ _ us hl => match us, hl with | [_], _ => rfl
  obtain ⟨fd_law, F_law⟩ := c.def_ 10 (d := dOf (52, "law")) rfl
  have g_law := He.glo_ok X G (c.fact 50 (f := .glo "law") rfl)
  have b_init : Binds K fdi p_init [] := Fi.bindsN fun _ _ _ _ _ _ us hl => match us, hl with | [_, _], _ => rfl
  have b_law := FunD.bindsA (ps := ["_law_script"]) F_law fun _ _ _ _ _ _ us hl => match us, hl with | [_], _ => rfl
  cases hfa.symm.trans g_law
  refine ⟨fd_law, fun s v => b_law s [v] rfl, fun base _ _ => ?_⟩
  have iN : IN P w K mg base (fIa K) := ⟨⟨fdi, p_init, ok_init Fi, b_init⟩⟩
  have c_take : CalG P w K mg base CX0 1 "_law_take" spTake := ⟨_, _, _, ok_take F_take nb, g_take, F_take.kp, b_take⟩
  have c_of : CalG P w K mg base CX0 2 "_law_of" (spOf K) := ⟨_, _, _, ok_of F_of nb c_take, g_of, F_of.kp, b_of⟩
  have c_places : CalG P w K mg base CX0 1 "_law_places" (spPlaces K) := ⟨_, _, _, ok_places F_places nb, g_places, F_places.kp, b_places⟩
  have c_pot : CalG P w K mg base CX0 1 "_law_pot" (spPot K) := ⟨_, _, _, ok_pot F_pot nb, g_pot, F_pot.kp, b_pot⟩
  have c_odd : CalG P w K mg base CX0 3 "_law_odd" spOdd := ⟨_, _, _, ok_odd F_odd nb c_of, g_odd, F_odd.kp, b_odd⟩
  have c_bent : CalG P w K mg base CX0 6 "_law_bent" (spBent 2) := ⟨_, _, _, ok_bent KS F_bent nb c_take c_of c_odd g_bent F_bent.kp b_bent 2 (by decide), g_bent, F_bent.kp, b_bent⟩
  have c_all : CalG P w K mg base CX0 3 "_law_all" (spAll (errA K)) := ⟨_, _, _, ok_all er iN F_all nb, g_all, F_all.kp, b_all⟩
  have c_marks : CalG P w K mg base CX0 1 "_law_marks" (spMarks K (fIa K) (errA K)) := ⟨_, _, _, ok_marks er F_marks nb, g_marks, F_marks.kp, b_marks⟩
  have c_right : CalG P w K mg base CX0 7 "_law_right" spRight := ⟨_, _, _, ok_right KS er iN F_right nb c_of c_odd c_bent c_all c_marks, g_right, F_right.kp, b_right⟩
  exact ok_law F_law nb c_places c_pot c_right
end
end K00
open PySem PySem.W PySem.Calls PyProof.Rows
theorem PySem.Challenge.cw_dialsums_k00_errors_keep_their_values_holds : PySem.Challenge.rw_dialsums_k00_errors_keep_their_values.Holds := by
  w_on; o_law
  refine HandSHeadRun.head_any (r := OpenLaw.row PySem.Challenge.rw_dialsums_k00_errors_keep_their_values) (q := view (OpenLaw.row PySem.Challenge.rw_dialsums_k00_errors_keep_their_values).prog [52]) (H := K00.hk) (ob := K00.ob) (M := 20000) (loose := K00.loose)
    (d := HandSHeadRun.topDef (OpenLaw.row PySem.Challenge.rw_dialsums_k00_errors_keep_their_values).prog 52) (kwd := []) K00.ob_eq
    (by kernel_rfl) (fun s => by kernel_rfl) K00.run (by kernel_rfl) (by kernel_rfl) (by kernel_rfl) (by rfl) (by first | assumption | decide +kernel)
    (by decide +kernel) ⟨rfl, rfl, rfl, rfl, rfl, by decide +kernel⟩ ?hw ?hc
  case hw => w_witness2
  case hc =>
    refine GX.walkG (l := PySem.Challenge.rw_dialsums_k00_errors_keep_their_values) (n := 63) (k := 8) (x := "_law_script") (CX := L2.CX0) rfl (by decide) (by kernel_rfl) ⟨rfl, by decide, by decide⟩ ?F (fun _ _ _ _ z => z)
    intro w mg fa h Y G hmg0
    obtain ⟨K, KX, c⟩ := Y
    have hmg : mg ("law" : PySem.Str) = some (.ref fa) := by
      have e : (HandSHeadRun.topDef (OpenLaw.row PySem.Challenge.rw_dialsums_k00_errors_keep_their_values).prog 52).name = ("law" : PySem.Str) := by kernel_rfl
      rw [← e]
      exact hmg0
    obtain ⟨fd, hb, hF⟩ := K00.facts (P := (PySem.Challenge.rw_dialsums_k00_errors_keep_their_values).prog) (w := w) KX G hmg c
    exact ⟨K, fd, K00.spLaw K, KX, hb, fun H a ns hl _ hS => ⟨a, ns, rfl, hS, fun _ => rfl⟩, hF⟩

