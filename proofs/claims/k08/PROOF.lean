import PyProof.Rows.All
import Wide.All
import OpenK.AllK
import Wide.FinOn
import KE.KExcSuper
import KE.GoesEnum
import HandS.ForMost
import HandS.ForExc
import HandS.ExcInit
import HandS.ExcField
import HandS.TryMany
import HandS.Walk
import HandS.Defaults
import HandS.Property
import HandS.IsInst
import HandS.Codes
import HandS.FStr
import KE.KCallOwn
import KE.KDictZip
import KE.GoesZip
import KE.GoesMore
import HandS.ListItems
import HandS.Zip
import KE.KOpsOwn
import KE.KOwnIter
import HandS.IterNext
import HandS.SortKw
import PyProof.WalkInts
import PySem.Challenge.RW_risensigns_k08_rule_refused
set_option Elab.async false
set_option linter.all false
set_option maxRecDepth 100000
set_option maxHeartbeats 4000000
namespace Rz
open PySem PySem.Spec PyProof.Rows L2

theorem one_lookup {x k : Str} {a c : Addr} (h : List.lookup x [(k, a)] = some c) : c = a := by
  by_cases e : x = k
  · subst e
    simp [List.lookup] at h
    exact h.symm
  · have e2 : (x == k) = false := by simpa using e
    simp [List.lookup, e2] at h

/-- the context of an __init__ that knows its class -/
def cxS (P : Program) (w : World) (K : PySem.W.Frag) (mg : Str → Option Value) (base : Heap) (N : List Str) (qual : Str) (scope : Scope) (f : Addr) (cd : Value) (cc : Addr) (A : Around) (outer : List Env) (s : Shared) (H : Hp) : Cx where
  prog := P
  w := w
  K := K
  mg := mg
  base := base
  A := A.deeper (PySem.W.ksEnv qual scope s.heap.objs.size f cd cc)
  N := N
  s_0 := s
  H_0 := H
  env := PySem.W.ksEnv qual scope s.heap.objs.size f cd cc
  outer := outer
  stack := PySem.W.ksEnv qual scope s.heap.objs.size f cd cc :: outer
  ex := []
  calm := true
  fn := fun _ => false
  pn := []
  xe := fun _ _ => False

/-- what such an __init__ promises: the field is set -/
def spExI (C : Addr) (fld : Str) : Sp := fun vs H Q _ => ∃ (a : Addr) (n : Int), vs = [.ref a, .int n] ∧ n.natAbs.log2 < 1920 ∧ H a = some (exo a C none) ∧
  ∀ dx, H dx = none → dx ≠ a → Q .non (upd (upd H dx (exd dx [(fld, .int n)])) a (exo a C (some dx)))

/-- super().__init__(..) of an exception that has no dict yet -/
theorem call_mw {X : Cx} {pins : List (Addr × Obj)} {σ : L2.St} {H : Hp} {s : Shared} {a C u : Addr} {us : List Value} {Q : Value → Shared → Prop} {E : Value → Shared → Prop} {A : Around} (T : OexC X.K C) (I : Inv X pins σ H s) (e : H a = some (exo a C none)) (hl : us.length ≤ sizeLine)
    (hu : s.heap.get? u = some (PySem.W.kxs_mw "ValueError.__init__" a)) (h : ∀ s', Inv X pins σ H s' → Q .none s') : wpAny (model X.prog X.w) A (call (.ref u) us) Q E s := by
  obtain ⟨nm, q, N, bs, bm, sn, sub, ab, col, dd, k0, k1, k2, k3, k5, hC, hbm⟩ := T.cls
  obtain ⟨t1, ho⟩ := exo_at I.hok e
  have hC' := I.kIn _ _ hC
  have fin : ∀ (h' : Heap) (t2 : Addr), (∀ b o, b ≠ a → s.heap.get? b = some o → h'.get? b = some o) → h'.get? a = some ({ cls := .ref C, dict := none, data := .fields #[.ref t2, .none, .none, .none, .bool false, .none] } : Obj) → Inv X pins σ H { s with heap := h' } := fun h' t2 k hx => by
    have J := I.write (t' := s.toks) (x := a) (e := a) (o := exo a C none) (by rw [e]; exact True.intro) (.inl rfl) k ⟨_, hx⟩ (exo_ok hx)
    have eu : upd H a (exo a C none) = H := by
      funext b
      by_cases hb : b = a
      · rw [hb, upd_same, e]
      · rw [upd_ne hb]
    rw [eu] at J
    exact J
  obtain ⟨hp, g, d, t, os⟩ := s
  refine wpAny_call (codeAny_of_tree ?_)
  show wpAny _ A.in1 (callAny (.ref u) ⟨us, []⟩) _ _ _
  simp only [callAny]
  refine wpAny_bind (wpAny_load hu ?_)
  simp only [PySem.W.kxs_mw, show (Value.type "method-wrapper" == Value.type "method" || Value.type "method-wrapper" == Value.type "builtin_function_or_method" || Value.type "method-wrapper" == Value.type "method-wrapper") = true by decide, if_true]
  refine PySem.W.KFB.if_so (by decide) ?_
  refine wpAny_bind (PySem.W.check_bound_init F.excBase_ValueError.toExcCallFacts hC' ho rfl ?_)
  refine wpAny_bind (wpAny_pure (wpAny_pure ?_))
  refine ⟨plainId_quiet F.excBase_ValueError.init.plain _, codeAny_builtin F.excBase_ValueError.initEntry ?_⟩
  rw [Around.under_plainId F.excBase_ValueError.init.plain _]
  exact PySem.W.exc_init_tree (cls := .ref C) (t0 := t1) (dv := none) (c2 := .none) (c3 := .none) (b4 := .bool false) ho hl fun h' k hx _ => h _ (fin h' _ k hx)

section
variable {P : Program} {w : World} {K : PySem.W.Frag} {mg : Str → Option Value} {base : Heap}
theorem exsup_ok {CX : CXT} {k : Nat} {C f cc cda : Addr} {qual fld : Str} {params : Arguments} {body : List Stmt} {scope : Scope} {oc kV doc pm ct ccl cl : Value} {od an cdd cld : Option Addr} {osl ccs csl : Array (Option Value)} {vs5 : Array Value} {file : Str} {tf : Tok} {ar : Arg}
    {p0 p1 p2 p3 p4 q1 q2 q3 q4 : Pos} {e : Expr}
    (T : OexC K C)
    (lk : K.lookup f = some ⟨oc, od, .func (PySem.W.ksFn "__init__" qual params body scope .none kV doc pm an (.ref cda) ct cc), osl⟩) (hcd : PySem.W.codeIn K (.ref cda) qual = true)
    (hcode : K.lookup cda = some ⟨ccl, cdd, .fields vs5, ccs⟩) (hvs : vs5[2]? = some (.str file tf)) (hfile : ((P.main.file : Str) == file) = true)
    (hcell : K.lookup cc = some ⟨cl, cld, .cell (some (.ref C)), csl⟩)
    (hops : PySem.W.nsIn K cStatics "thirdparty.any" = some none) (hsuper : mg "super" = none)
    (hsin : PySem.W.ks_superIn K C C "__init__" = some (some (.builtin "ValueError.__init__")))
    (hB : PySem.W.subIn K (.ref C) (.type "ValueError") = some true) (hCC : PySem.W.mroIn K C (.ref C) = some true) (noN : PySem.W.findIn K (.ref C) fld = some none)
    (htop : (P.main.scope.names.lookup ("super" : Str)).isSome = false)
    (hbody : body = [.Expr (.Call (.Attribute (.Call (.Name "super" p0) [] [] p1) "__init__" p2) [e] [] p3) p4, .Assign [.Attribute (.Name "self" q1) fld q2] (.Name fld q3) q4])
    (hp : (params.posonlyargs ++ params.args).head? = some ar) (har : ar.arg = "self")
    (hks : scope.names.lookup ("super" : Str) = some .globalImplicit) (hkc : scope.names.lookup ("__class__" : Str) = some .free) (hka : scope.names.lookup ("self" : Str) = some .local) (hkf : scope.names.lookup fld = some .local)
    (hkind : scope.kind = .function) (hco : scope.isCoroutine = false) (hgen : scope.isGenerator = false) (hnc : ∀ x ∈ scope.names, x.2 ≠ .cell) (honly : ∀ x, scope.names.lookup x = some .free → x = "__class__") (hnd : fld ≠ "self")
    (hdb : (fld == ("__debug__" : Str)) = false) (hdc : (fld == ("__classdict__" : Str)) = false)
    (hmsg : ∀ X : Cx, X.N = [("self" : Str), fld] → X.env.scope = scope → ∃ t, PE X e t ∧ ∀ (σ : L2.St) (n : Int) (H : Hp) (Q : VK), σ[1]? = some (some (.int n)) → n.natAbs.log2 < 1920 → (∀ z : Str, Q (.str z) H) → t σ H Q)
    (hst : ∀ (L : Addr), starEach [e] (PySem.W.ksEnv qual scope L f (.ref cda) cc) = (false, eval e (PySem.W.ksEnv qual scope L f (.ref cda) cc)) :: starEach [] (PySem.W.ksEnv qual scope L f (.ref cda) cc))
    {pl : Sem Bool} (hms : ∀ (L : Addr), eval (.Call (.Attribute (.Call (.Name "super" p0) [] [] p1) "__init__" p2) [e] [] p3) (PySem.W.ksEnv qual scope L f (.ref cda) cc) = (do
      let ov ← attributeBase (.Call (.Name "super" p0) [] [] p1) "__init__" (PySem.W.ksEnv qual scope L f (.ref cda) cc) (eval (.Call (.Name "super" p0) [] [] p1) (PySem.W.ksEnv qual scope L f (.ref cda) cc))
      standAt p2.atName
      let (g, first) ← holding [ov] (getMethod ov "__init__" pl)
      callWith p3 g first (backTo p3 (starEach [e] (PySem.W.ksEnv qual scope L f (.ref cda) cc))) [])) :
    FnOk P w K mg base CX (k + 1) f (PySem.W.ksFn "__init__" qual params body scope .none kV doc pm an (.ref cda) ct cc) ["self", fld] (spExI C fld) := by
  refine ⟨fun vs H Q E h => ?_, fun A outer s H args us vs Q E hr e0 hb r hsp => ?_⟩
  · obtain ⟨a, n, rfl, _⟩ := h
    rfl
  obtain ⟨a, n, rfl, hn, ha, hk⟩ := hsp
  obtain ⟨u0, u1, rfl, r0, r1⟩ := vals2 r
  obtain rfl : u0 = Value.ref a := r0
  obtain ⟨tk, rfl⟩ := r1
  have KX : K.In s.heap := e0.mod.kin.keeps fun b o q => (e0.bs b o q).1
  have lim : s.heap.NoLimit := e0.mod.nolimit.keeps fun b o q => (e0.bs b o q).1
  refine PySem.ks_codeAny_call_defAt (body := body) (binds := (["self", fld] : List Str).zip [Value.ref a, Value.int n tk]) hr.depth (KX _ _ lk) rfl lim (PySem.W.codeRec_of KX hcd) rfl hb hnc (fun x hx => ?_) (fun h1 hns hk1 => ?_) hco hgen hkind
  · have hx' : x = (("self" : Str), Value.ref a) ∨ x = (fld, Value.int n tk) := by simpa using hx
    rcases hx' with rfl | rfl
    · exact hka
    · exact hkf
  have hne : (("self" : Str) == fld) = false := by simpa using Ne.symm hnd
  have nocell : ∀ x, scope.names.lookup x ≠ some .cell := fun x hx => hnc _ (PySem.mem_of_lookup hx) rfl
  have cells : ∀ {x c}, (cxS P w K mg base ["self", fld] qual scope f (.ref cda) cc A outer s H).env.cells.lookup x = some c → c = cc := fun h => one_lookup h
  have freeCC : H cc = none := (e0.bs _ _ (e0.mod.kin _ _ hcell)).2
  have I : Inv (cxS P w K mg base ["self", fld] qual scope f (.ref cda) cc A outer s H) [] [some (.ref a), some (.int n)] H { s with heap := h1, toks := s.toks + 2 } := by
    have noA : ∀ b : Addr, b ∉ (cxS P w K mg base ["self", fld] qual scope f (.ref cda) cc A outer s H).ex := fun b z => absurd (show b ∈ ([] : List Addr) from z) (by simp)
    refine ⟨⟨e0.mod, hkind, rfl, rfl, Nat.le_refl _, fun y z c h1 h2 => ?_, fun y hy => ?_, fun y c z _ => ?_, fun _ => hr.hd, Around.frames_deeper e0.frames, .inr ⟨rfl, rfl⟩, fun b z => absurd z (noA b), e0.bs, e0.bsz, fun b _ _ => noA b, fun b z => absurd z (noA b), e0.funs, e0.frf⟩,
      rfl, e0.bare, Un.kept hk1, ⟨_, hns, fun i y v h1 h2 h3 => ?_⟩, fun y c h => ?_, e0.hok.fresh (Nat.le_refl _), fun y c h => ?_, fun p hp => absurd (show p ∈ ([] : List (Addr × Obj)) from hp) (by simp), e0.hok.kept hk1, rfl⟩
    · have k1 : ∀ {y c}, List.lookup y [(("__class__" : Str), cc)] = some c → y = "__class__" := fun {y c} q => by
        by_cases z : y = "__class__"
        · exact z
        · have e2 : (y == ("__class__" : Str)) = false := by simpa using z
          simp [List.lookup, e2] at q
      rw [k1 h1, k1 h2]
    · rcases hy with hy | hy
      · exact absurd hy (nocell y)
      · have e1 := honly y hy
        subst e1
        exact ⟨cc, rfl⟩
    · exact Bool.noConfusion (show false = true from z)
    · refine match i, h1, h2 with
        | 0, h1, h2 => ?_
        | 1, h1, h2 => ?_
        | i + 2, h1, h2 => ?_
      · have e1 : ("self" : Str) = y := Option.some.inj h1
        have e2 : V.ref a = v := Option.some.inj (Option.some.inj h2)
        subst e1
        subst e2
        exact ⟨.ref a, rfl, .inl ⟨hka, by simp [List.lookup, hne]⟩⟩
      · have e1 : fld = y := Option.some.inj h1
        have e2 : V.int n = v := Option.some.inj (Option.some.inj h2)
        subst e1
        subst e2
        exact ⟨.int n tk, ⟨tk, rfl⟩, .inl ⟨hkf, by simp [List.lookup]⟩⟩
      · exact absurd h1 (by simp [cxS])
    · rw [cells h]
      exact ⟨_, _, hk1 _ _ (KX _ _ hcell), rfl⟩
    · rw [cells h]
      exact freeCC
  subst hbody
  have KX1 : K.In h1 := KX.keeps hk1
  obtain ⟨nm, q, N, bs, bm, sn, sub, ab, col, dd, k0, k1, k2, k3, k5, hC, hbm⟩ := id T.cls
  have hcl : PySem.W.clsIn K C = some { name := nm, bases := bs, mro := .ref C :: bm, ns := N, qualname := q, hasDict := true, slotNames := sn, subclasses := sub, abstract := ab, collection := col, hasDel := false } := by unfold PySem.W.clsIn; rw [hC] <;> rfl
  obtain ⟨t1, ho⟩ := exo_at I.hok ha
  obtain ⟨mb, b1, b2⟩ := I.mod.blt
  obtain ⟨hh, g, d, t0, os⟩ := s
  have hac : a ≠ C := fun z => by
    have z1 := KX1 _ _ hC
    rw [← z] at z1
    have z2 := z1.symm.trans ho
    cases z2
  refine PySem.ks_wpAt_execs_cons (PySem.ks_wpAt_Expr_any (PySem.ks_wpAt_MethodCall (pl := pl) ?_ (hms _)) I.quiet rfl)
  refine PySem.ks_wpAt_super_base hks hkc (by decide) rfl (KX1 _ _ lk) rfl hp rfl (KX1 _ _ hcode) rfl hvs hfile htop ?_
  refine PySem.W.ks_loadName_global hkind hks (Calls.loadGlobal_builtin (I.mod.glob.keeps I.bk) hsuper (b1.keeps I.bk) ((b2 "super" (by decide)).trans (by decide +kernel : bootBuiltins "super" = some (.type "super"))) ⟨rfl, ?_⟩)
  refine wpAny_loadName_free hkind hkc rfl ⟨_, KX1 _ _ hcell, rfl⟩ ?_
  rw [har]
  refine wpAny_loadName_local (v := .ref a) hkind hka hns (by simp [List.lookup, hne]) ?_
  refine PySem.ks_wpAny_isType_cls (KX1 _ _ hC) rfl ⟨rfl, ?_⟩
  refine PySem.ks_wpAny_call_super (KX1 _ _ hC) rfl ho rfl (fun c z => by cases z) (PySem.W.looks_mroIn KX1 hCC) (fun h2 e2 kk2 => ?_)
  have I2 := I.kept (t' := t0 + 2) kk2
  have KX2 := KX1.keeps kk2
  have ho2 := kk2 _ _ ho
  have hI : PySem.W.Looks (model P w) h2 (isInstance (.ref a) (.type "ValueError")) true :=
    (PySem.W.InstAt.type (M := model P w) (ox := { cls := .ref C, data := .fields #[.ref t1, .none, .none, .none, .bool false, .none] }) (od := none) ⟨ho2, rfl, rfl, trivial⟩).andThen (PySem.W.looks_subIn KX2 hB)
  have hsin2 : PySem.W.alongIn K "__init__" (((Value.ref C :: bm).dropWhile (· != .ref C)).drop 1) = some (some (.builtin "ValueError.__init__")) := by
    unfold PySem.W.ks_superIn at hsin
    rw [hcl] at hsin
    exact hsin
  refine PySem.W.kxs_getMethod PySem.W.kxs_ValueError e2 (PySem.W.looks_opaque KX2 hops) (l₀ := .ref C :: bm) ?_ rfl KX2 hsin2 hI hac (by decide) ?_
  · exact fun A Q E s k q => wpAny_bind ((PySem.W.looks_clsIn KX2 hcl) A _ E s k (wpAny_pure q))
  have kk3 : ∀ b o, h2.get? b = some o → (h2.push (PySem.W.kxs_mw "ValueError.__init__" a)).get? b = some o := fun b o q => Heap.get?_push_of_some _ q
  have I3 := I2.kept (t' := t0 + 2 + 1) kk3
  have hu : (h2.push (PySem.W.kxs_mw "ValueError.__init__" a)).get? h2.objs.size = some (PySem.W.kxs_mw "ValueError.__init__" a) := Heap.get?_push_at rfl rfl
  have I4 := I3.pins_of (pins' := [(h2.objs.size, PySem.W.kxs_mw "ValueError.__init__" a)]) (fun p hp => by
    obtain rfl : p = (h2.objs.size, PySem.W.kxs_mw "ValueError.__init__" a) := by simpa using hp
    refine ⟨hu, I2.hok.fresh (Nat.le_refl _), fun z => ?_, I2.nofs (Nat.le_refl _), fun v z => by cases z⟩
    have z1 := I2.lt
    rw [← z] at z1
    exact Nat.lt_irrefl _ z1)
  obtain ⟨te, pe, rd⟩ := hmsg (cxS P w K mg base ["self", fld] qual scope f (.ref cda) cc A outer ⟨hh, g, d, t0, os⟩ H) rfl rfl
  have pa := pa_cons pe pa_nil (hst _)
  have e3 : backTo p3 (starEach [e] (PySem.W.ksEnv qual scope hh.objs.size f (.ref cda) cc)) = (false, eval e (PySem.W.ksEnv qual scope hh.objs.size f (.ref cda) cc)) :: backTo p3 (starEach [] (PySem.W.ksEnv qual scope hh.objs.size f (.ref cda) cc)) := by rw [hst]; rfl
  refine PySem.W.kxs_callWith (i := "ValueError.__init__") (x := a) (by show (backTo p3 (starEach [e] (PySem.W.ksEnv qual scope hh.objs.size f (.ref cda) cc))).any (·.1) = false; rw [e3]; rfl) ?_
  show wpAny _ _ (evalArgs _ true (backTo p3 (starEach [e] (PySem.W.ksEnv qual scope hh.objs.size f (.ref cda) cc))) []) _ _ _
  rw [e3]
  refine Calls.evalArgs_plain ?_
  rw [← e3]
  refine wpAny_mono (pa.run p3 _ _ _ _ (fun vs H' => (∃ z, vs = [V.str z]) ∧ H' = H) I4 (rd _ n H _ rfl hn fun z => ⟨⟨z, rfl⟩, rfl⟩)) (fun us s5 hu5 => ?_) fun _ _ z => z.elim
  obtain ⟨vs, H', I5, r5, ⟨z, rfl⟩, rfl⟩ := hu5
  have hu6 := (I5.pin (h2.objs.size, PySem.W.kxs_mw "ValueError.__init__" a) (by simp [cxS])).1
  refine ⟨hu6, ?_⟩
  obtain ⟨uz, rfl, _⟩ := vals1 r5
  refine call_mw T I5 ha (by show 1 ≤ sizeLine; decide) hu6 fun s6 I6 => ?_
  show PySem.wpAt _ _ _ (execs _ _) _ _ _
  refine wpAt_of_wpAny ?_
  have J6 := I6.pins_of (pins' := []) (fun p hp => by cases hp)
  have ps : PSs (cxS P w K mg base ["self", fld] qual scope f (.ref cda) cc A outer ⟨hh, g, d, t0, os⟩ H') [.Assign [.Attribute (.Name "self" q1) fld q2] (.Name fld q3) q4] (tOst K fld (tVar 0) (tVar 1)) :=
    pss_one (ps_ost (pe_var rfl (.inl hka)) (pe_var rfl (.inl hkf) hdb hdc) rfl)
  refine wpAny_mono (ps.run [] s6 _ H' { nx := fun _ H2 => Q .non H2, rt := fun _ _ => False } J6 ⟨_, rfl, _, rfl, a, C, rfl, T, noN, .inl ⟨ha, hk⟩⟩) (fun fl s7 hs => ?_) fun _ _ z => z.elim
  cases fl with
  | next =>
    obtain ⟨σ7, H7, J, q7⟩ := hs
    exact ⟨.non, H7, J.os, J.bare, J.base, J.hok, rfl, q7⟩
  | ret u =>
    obtain ⟨_, _, _, _, _, q7⟩ := hs
    exact q7.elim
  | brk =>
    obtain ⟨_, _, _, q7⟩ := hs
    exact q7.elim
  | cont =>
    obtain ⟨_, _, _, q7⟩ := hs
    exact q7.elim
end
/-- what stands of such an __init__ behind the top -/
structure ExInit (P : Program) (K : PySem.W.Frag) (mg : Str → Option Value) (C f : Addr) (fd : FuncData) (fld : Str) (st : Stmt) : Prop where
  ex : ∃ (qual : Str) (oc kV doc pm ct ccl cl : Value) (od an cdd cld : Option Addr) (osl ccs csl : Array (Option Value)) (vs5 : Array Value) (file : Str) (tf : Tok) (cc cda : Addr),
    fd = PySem.W.ksFn "__init__" qual (defArgs st) (defBody st) (defScope st) .none kV doc pm an (.ref cda) ct cc ∧ K.lookup f = some ⟨oc, od, .func fd, osl⟩ ∧ PySem.W.codeIn K (.ref cda) qual = true ∧
    K.lookup cda = some ⟨ccl, cdd, .fields vs5, ccs⟩ ∧ vs5[2]? = some (.str file tf) ∧ ((P.main.file : Str) == file) = true ∧ K.lookup cc = some ⟨cl, cld, .cell (some (.ref C)), csl⟩
  ops : PySem.W.nsIn K cStatics "thirdparty.any" = some none
  nsup : mg "super" = none
  sin : PySem.W.ks_superIn K C C "__init__" = some (some (.builtin "ValueError.__init__"))
  sub : PySem.W.subIn K (.ref C) (.type "ValueError") = some true
  mro : PySem.W.mroIn K C (.ref C) = some true
  noN : PySem.W.findIn K (.ref C) fld = some none
  top : (P.main.scope.names.lookup ("super" : Str)).isSome = false
/-- .. and what its instances are read by -/
structure ExF (K : PySem.W.Frag) (C : Addr) (fld : Str) : Prop where
  xf : XfC K C
  noN : PySem.W.findIn K (.ref C) fld = some none
end Rz

namespace Rz
open PySem PySem.Spec PyProof.Rows L2
theorem str_int_len {n : Int} (h : n.natAbs.log2 < 1920) : (toString n : Str).length ≤ 1921 := PyProof.Rows.int_text_len_1921 h
theorem exinit_ok {P : Program} {w : World} {K : PySem.W.Frag} {mg : Str → Option Value} {base : Heap} {CX : CXT} {C f : Addr} {fd : FuncData} {fld : Str} {st : Stmt} {ar : Arg} {p0 p1 p2 p3 p4 q1 q2 q3 q4 : Pos} {e : Expr}
    (T : OexC K C) (I : ExInit P K mg C f fd fld st)
    (hbody : defBody st = [.Expr (.Call (.Attribute (.Call (.Name "super" p0) [] [] p1) "__init__" p2) [e] [] p3) p4, .Assign [.Attribute (.Name "self" q1) fld q2] (.Name fld q3) q4])
    (hp : ((defArgs st).posonlyargs ++ (defArgs st).args).head? = some ar) (har : ar.arg = "self")
    (hks : (defScope st).names.lookup ("super" : Str) = some .globalImplicit) (hkc : (defScope st).names.lookup ("__class__" : Str) = some .free) (hka : (defScope st).names.lookup ("self" : Str) = some .local) (hkf : (defScope st).names.lookup fld = some .local)
    (hkind : (defScope st).kind = .function) (hco : (defScope st).isCoroutine = false) (hgen : (defScope st).isGenerator = false)
    (hnc : ((defScope st).names.all fun x => decide (x.2 ≠ .cell)) = true) (hfr : ((defScope st).names.all fun x => decide (x.2 = .free → x.1 = "__class__")) = true) (hnd : fld ≠ "self")
    (hdb : (fld == ("__debug__" : Str)) = false) (hdc : (fld == ("__classdict__" : Str)) = false)
    (hmsg : ∀ X : Cx, X.N = [("self" : Str), fld] → X.env.scope = defScope st → ∃ t, PE X e t ∧ ∀ (σ : L2.St) (n : Int) (H : Hp) (Q : VK), σ[1]? = some (some (.int n)) → n.natAbs.log2 < 1920 → (∀ z : Str, Q (.str z) H) → t σ H Q)
    (hst : ∀ (qual : Str) (L cda cc : Addr), starEach [e] (PySem.W.ksEnv qual (defScope st) L f (.ref cda) cc) = (false, eval e (PySem.W.ksEnv qual (defScope st) L f (.ref cda) cc)) :: starEach [] (PySem.W.ksEnv qual (defScope st) L f (.ref cda) cc))
    {pl : Sem Bool} (hms : ∀ (qual : Str) (L cda cc : Addr), eval (.Call (.Attribute (.Call (.Name "super" p0) [] [] p1) "__init__" p2) [e] [] p3) (PySem.W.ksEnv qual (defScope st) L f (.ref cda) cc) = (do
      let ov ← attributeBase (.Call (.Name "super" p0) [] [] p1) "__init__" (PySem.W.ksEnv qual (defScope st) L f (.ref cda) cc) (eval (.Call (.Name "super" p0) [] [] p1) (PySem.W.ksEnv qual (defScope st) L f (.ref cda) cc))
      standAt p2.atName
      let (g, first) ← holding [ov] (getMethod ov "__init__" pl)
      callWith p3 g first (backTo p3 (starEach [e] (PySem.W.ksEnv qual (defScope st) L f (.ref cda) cc))) [])) :
    FnOk P w K mg base CX 1 f fd ["self", fld] (spExI C fld) := by
  obtain ⟨qual, oc, kV, doc, pm, ct, ccl, cl, od, an, cdd, cld, osl, ccs, csl, vs5, file, tf, cc, cda, rfl, lk, hcd, hcode, hvs, hfile, hcell⟩ := I.ex
  refine exsup_ok (k := 0) T lk hcd hcode hvs hfile hcell I.ops I.nsup I.sin I.sub I.mro I.noN I.top hbody hp har hks hkc hka hkf hkind hco hgen (fun x hx => ?_) (fun x hx => ?_) hnd hdb hdc hmsg (fun L => hst qual L cda cc) (fun L => hms qual L cda cc)
  · exact of_decide_eq_true (List.all_eq_true.mp hnc x hx)
  · exact of_decide_eq_true (List.all_eq_true.mp hfr _ (PySem.mem_of_lookup hx)) rfl
theorem msg_ok2 {sc : Scope} {fld c : Str} {p1 p2 p3 p4 : Pos} {j : Nat} (hv : sc.names.lookup fld = some .local) (hd : (fld == ("__debug__" : Str)) = false) (hdc : (fld == ("__classdict__" : Str)) = false) (hc : c.length ≤ 1000) (X : Cx) (hN : X.N = [("self" : Str), fld]) (hs : X.env.scope = sc) :
    ∃ t, PE X (.JoinedStr [.Constant (.str c) j p1, .FormattedValue (.Name fld p2) (-1) none p3] p4) t ∧ ∀ (σ : L2.St) (n : Int) (H : Hp) (Q : VK), σ[1]? = some (some (.int n)) → n.natAbs.log2 < 1920 → (∀ z : Str, Q (.str z) H) → t σ H Q := by
  refine ⟨_, pe_joined (.cons pe_str (.cons (pe_fmt (pe_var (i := 1) (by rw [hN]; rfl) (.inl (by rw [hs]; exact hv)) hd hdc)) .nil)), fun σ n H Q h1 hn hq => ?_⟩
  have l1 := str_int_len hn
  refine ⟨c, rfl, ?_, ?_⟩
  · rw [Str.length_append, sizeLine_eq]
    show 0 + c.length ≤ _
    omega
  · refine ⟨_, h1, .inr ⟨n, rfl, hn, _, rfl, ?_, hq _⟩⟩
    rw [Str.length_append, Str.length_append, sizeLine_eq]
    show 0 + c.length + _ ≤ _
    omega
theorem msg_ok3 {sc : Scope} {fld c c2 : Str} {p1 p2 p3 p4 p5 : Pos} {j j2 : Nat} (hv : sc.names.lookup fld = some .local) (hd : (fld == ("__debug__" : Str)) = false) (hdc : (fld == ("__classdict__" : Str)) = false) (hc : c.length ≤ 1000) (hc2 : c2.length ≤ 1000) (X : Cx) (hN : X.N = [("self" : Str), fld]) (hs : X.env.scope = sc) :
    ∃ t, PE X (.JoinedStr [.Constant (.str c) j p1, .FormattedValue (.Name fld p2) (-1) none p3, .Constant (.str c2) j2 p5] p4) t ∧ ∀ (σ : L2.St) (n : Int) (H : Hp) (Q : VK), σ[1]? = some (some (.int n)) → n.natAbs.log2 < 1920 → (∀ z : Str, Q (.str z) H) → t σ H Q := by
  refine ⟨_, pe_joined (.cons pe_str (.cons (pe_fmt (pe_var (i := 1) (by rw [hN]; rfl) (.inl (by rw [hs]; exact hv)) hd hdc)) (.cons pe_str .nil))), fun σ n H Q h1 hn hq => ?_⟩
  have l1 := str_int_len hn
  refine ⟨c, rfl, ?_, ?_⟩
  · rw [Str.length_append, sizeLine_eq]
    show 0 + c.length ≤ _
    omega
  · refine ⟨_, h1, .inr ⟨n, rfl, hn, _, rfl, ?_, c2, rfl, ?_, hq _⟩⟩
    · rw [Str.length_append, Str.length_append, sizeLine_eq]
      show 0 + c.length + _ ≤ _
      omega
    · rw [Str.length_append, Str.length_append, Str.length_append, sizeLine_eq]
      show 0 + c.length + _ + _ ≤ _
      omega
end Rz

namespace Rz
open PySem PySem.Spec PyProof.Rows L2

/-! ### enumerate(text) -/
def Ites (x : Str) : It :=
  ⟨fun i _ => i < x.cps.size, fun i H v H' => ∃ T c, v = .ref T ∧ H T = none ∧ H' = upd H T (.tup [.int (i : Nat), .str ⟨#[c]⟩]) ∧ x.cps[i]? = some c, fun i _ => i = x.cps.size⟩
theorem turn_enumS {P : Program} {w : World} {K : PySem.W.Frag} {elts : List Expr} {kk : Nat} {tpos : Pos} (e it : Addr) (x : Str) (t : Tok) :
    Turn P w K (.Tuple elts kk tpos) (Ites x) [e, it] e (fun i h => (∃ old, IsEnum h e it ((i : Nat) : Int) old) ∧ h.IsStrIter it (strIterType x) x t i ∧ e ≠ it) where
  mem := by simp
  obj := fun i h st b hb => by
    obtain ⟨⟨old, he⟩, ⟨o, ho, hc, hd⟩, _⟩ := st
    have z2 : b = e ∨ b = it := by simpa using hb
    rcases z2 with rfl | rfl
    · exact ⟨_, he, fun v q => nomatch q⟩
    · exact ⟨o, ho, fun v q => by rw [hd] at q; cases q⟩
  keep := fun i h h' st k => by
    obtain ⟨⟨old, he⟩, ⟨o, ho, r⟩, hne⟩ := st
    exact ⟨⟨old, k e (by simp) _ he⟩, ⟨o, k it (by simp) _ ho, r⟩, hne⟩
  item := by
    intro X hP hw hK hc i pins s σ H E I hf st hg
    subst hP hw hK
    obtain ⟨⟨old, he⟩, hit, hne⟩ := st
    have hel : e < s.heap.objs.size := Heap.lt_size he
    have hil : it < s.heap.objs.size := by obtain ⟨_, q, _⟩ := hit; exact Heap.lt_size q
    have D := Draws.text (prog := X.prog) (w := X.w) (A := X.A.in1) (I.ok.hd hc) it x t
    refine wpAny_pyNext_enum_itemD D he hit hg hne (by simpa using hne) fun u h' tk hu ho hit2 hT hsz hk => ?_
    obtain ⟨c, tc, hcx, rfl⟩ := hu
    refine ⟨_, rfl, wpAny_letOwnedTupleGo_enum (s := { s with heap := h', toks := tk + 1 }) ho fun h2 he2 sb => ?_⟩
    have hT2 : h2.get? s.heap.objs.size = some { cls := .type "tuple", data := .seq #[.int i tk, .str ⟨#[c]⟩ tc] } := (sb.2 _ (Nat.ne_of_gt hel)).trans hT
    have new : ObjOk X.prog X.w (upd H s.heap.objs.size (.tup [.int (i : Nat), .str ⟨#[c]⟩])) h2 s.heap.objs.size (.tup [.int (i : Nat), .str ⟨#[c]⟩]) :=
      ⟨by show 2 ≤ sizeLine; decide, [.int i tk, .str ⟨#[c]⟩ tc], .cons ⟨_, rfl⟩ (.cons ⟨_, rfl⟩ .nil), ⟨_, hT2, rfl, _, rfl⟩⟩
    have J : Inv X pins σ (upd H s.heap.objs.size (.tup [.int (i : Nat), .str ⟨#[c]⟩])) { s with heap := h2, toks := tk + 1 } :=
      I.turnedNew (t' := tk + 1) (ch := [e, it]) (fun b ob hb q => (sb.2 b (fun z => hb (by simp [z]))).trans (hk b ob (fun z => hb (by simp [z])) (fun z => hb (by simp [z])) q)) hf (Nat.le_refl _) new
    obtain ⟨oi, e3, r3⟩ := hit2
    refine ⟨.ref s.heap.objs.size, _, J, rfl, ⟨_, c, rfl, I.hok.fresh (Nat.le_refl _), rfl, hcx⟩, ⟨⟨.str ⟨#[c]⟩ tc, ?_⟩, ⟨oi, (sb.2 it (Ne.symm hne)).trans e3, r3⟩, hne⟩, fun b hb => ?_⟩
    · have e1 : ((i + 1 : Nat) : Int) = (i : Int) + 1 := by omega
      rw [e1]
      exact he2
    · have hbl : b < s.heap.objs.size := by
        have z2 : b = e ∨ b = it := by simpa using hb
        rcases z2 with rfl | rfl
        · exact hel
        · exact hil
      rw [upd_ne (Nat.ne_of_lt hbl)]
      exact (hf b hb).1
  done := by
    intro X hP hw hK hc i pins s σ H E I hf st hg
    subst hP hw hK
    obtain ⟨⟨old, he⟩, hit, hne⟩ := st
    obtain ⟨f0, f1, f2, f3, f4, f5⟩ := hf it (by simp)
    have D := Draws.text (prog := X.prog) (w := X.w) (A := X.A.in1) (I.ok.hd hc) it x t
    have hg' : i = x.cps.size := hg
    subst hg'
    exact wpAny_pyNext_enum_endD D he hit fun h' eb => ⟨rfl, I.turned (t' := s.toks) (fun b o hb q => eb b o hb q) f0 f1 f3 f4 f5⟩
  self := fun A i s Q E st h => let ⟨⟨_, he⟩, _⟩ := st; wpAny_pyIter_enum he h
theorem walk_enumS {z : Str} : Walk (Ites z) z.cps.size (fun _ => True) (fun i H v H' => ∃ T c, v = .ref T ∧ H T = none ∧ H' = upd H T (.tup [.int (i : Nat), .str ⟨#[c]⟩]) ∧ z.cps.toList[i]? = some c) :=
  ⟨fun _ _ hi _ => hi, fun _ _ => rfl, fun i H x H' _ _ y => by
    obtain ⟨T, c, e1, e2, e3, e4⟩ := y
    exact ⟨T, c, e1, e2, e3, by rw [Array.getElem?_toList]; exact e4⟩⟩
def iEnumS (ta : TA) : TI := fun σ H R => ta σ H fun vs H1 => ∃ x, vs = [.str x] ∧ R (Ites x) H1
theorem pi_enumS {X : Cx} {e : Expr} {ta : TA} {p pos tpos : Pos} {elts : List Expr} {kk : Nat} (hg : Gl X "enumerate") (hm : X.mg "enumerate" = none) (ha : PA X [e] ta) (hs : starEach [e] X.env = [(false, eval e X.env)] := by rfl) :
    PI X (.Tuple elts kk tpos) (.Call (.Name "enumerate" p) [e] [] pos) (iEnumS ta) := by
  refine ⟨fun pins s σ H R I h => ?_⟩
  refine Call_ (ld_blt I hg hm boot_enumerate (PyProof.Rows.callWith_type1 (thn (ha.run pos pins s σ H _ I h) fun us s1 ⟨vs, H1, I1, r1, q1⟩ => ?_) hs rfl))
  obtain ⟨x, rfl, q⟩ := q1
  obtain ⟨u, rfl, ru⟩ := vals1 r1
  obtain ⟨t, rfl⟩ := ru
  refine call_enumerate_str fun h' he hit hsz hk => wpAny_pyIter_enum he ?_
  have J : Inv X pins σ H1 { s1 with heap := h' } := I1.kept (t' := s1.toks) hk
  refine ⟨s1.heap.objs.size + 1, [s1.heap.objs.size + 1, s1.heap.objs.size], _, _, H1, rfl, J, turn_enumS (s1.heap.objs.size + 1) s1.heap.objs.size x t, ⟨⟨.none, he⟩, hit, Nat.succ_ne_self _⟩, fun b hb => ?_, q⟩
  have hle : s1.heap.objs.size ≤ b := by
    have z2 : b = s1.heap.objs.size + 1 ∨ b = s1.heap.objs.size := by simpa using hb
    rcases z2 with rfl | rfl
    · exact Nat.le_add_right _ _
    · exact Nat.le_refl _
  exact I1.fpOk hle (I1.hok.fresh hle)
end Rz

namespace Rz
open PySem PySem.Spec PyProof.Rows L2

abbrev SuR := Addr → Value → Option Addr → TS
/-- a clause: its class, the slot of its name if it has one, its suite -/
abbrev Cls1 := Value × Option Nat × SuR
def endM (i : Option Nat) (D : Ends) : Ends := match i with
  | none => D
  | some i => { nx := fun σ H => D.nx (σ.set i none) H, rt := D.rt, bk := fun σ H => D.bk (σ.set i none) H, ct := fun σ H => D.ct (σ.set i none) H }
def stM (i : Option Nat) (a : Addr) (σ : L2.St) : L2.St := match i with
  | none => σ
  | some i => σ.set i (some (.ref a))
def wMix (K : PySem.W.Frag) (Wout : WX) (D : Ends) : List Cls1 → WX
  | [] => Wout
  | (c, i, ts) :: r => fun cls d σ H => ∃ b, PySem.W.exmOne K cls c = some b ∧ (b = true → ∀ a, H a = none → ts a cls d (endM i D) (stM i a σ) H) ∧ (b = false → wMix K Wout D r cls d σ H)
inductive HdsM (X : Cx) : List ExceptHandler → List Cls1 → Prop
  | nil : HdsM X [] []
  | plain {x : Str} {c : Value} {ts : SuR} {b0 : Stmt} {suite : List Stmt} {np p2 : Pos} {hds : List ExceptHandler} {l : List Cls1} (hc : Names X x c)
      (su : ∀ (a : Addr) (oe : Obj) (cls : Value) (d : Option Addr) (pn : List (Addr × Obj)), Zc cls d oe → (∃ vs, oe.data = .fields vs) → PSs (X.suite a ((a, oe) :: pn)) (b0 :: suite) (ts a cls d))
      (r : HdsM X hds l) : HdsM X (.ExceptHandler (some (.Name x np)) none (b0 :: suite) p2 :: hds) ((c, none, ts) :: l)
  | named {x n : Str} {i : Nat} {c : Value} {ts : SuR} {b0 : Stmt} {suite : List Stmt} {np p2 : Pos} {hds : List ExceptHandler} {l : List Cls1} (hN : X.N.Nodup) (hi : X.N[i]? = some n) (hl : X.env.kindOf n = some .local) (hc : Names X x c)
      (su : ∀ (a : Addr) (oe : Obj) (cls : Value) (d : Option Addr) (pn : List (Addr × Obj)), Zc cls d oe → (∃ vs, oe.data = .fields vs) → PSs (X.suite a ((a, oe) :: pn)) (b0 :: suite) (ts a cls d))
      (r : HdsM X hds l) : HdsM X (.ExceptHandler (some (.Name x np)) (some n) (b0 :: suite) p2 :: hds) ((c, some i, ts) :: l)
section
variable {X : Cx} {body : List Stmt} {h0 : ExceptHandler} {hds : List ExceptHandler} {l : List Cls1} {pos : Pos} {tb : WX → TS} {Wout : WX}
theorem ps_try_mix (hs : X.stack = X.env :: X.outer) (hf : X.env.frame = some X.env.locals) (tk : Takes X Wout)
    (hb : ∀ (W : WX) (pn : List (Addr × Obj)) (xe : Value → Shared → Prop), Takes (X.tr pn xe) W → PassesOwn (model X.prog X.w) X.A X.env xe → PSs (X.tr pn xe) body (tb W))
    (hh : HdsM X (h0 :: hds) l) : PS X (.Try body (h0 :: hds) [] [] pos) (fun D σ H => tb (wMix X.K Wout D l) D σ H) := by
  refine ⟨fun pins s σ H D I h => ?_⟩
  have ok := I.ok
  have fr0 : X.A.frames = some (X.env :: X.outer) := ok.frames.trans (by rw [hs])
  refine wpAny_Try_except ?_
  refine wpAny_mono ((hb (wMix X.K Wout D l) (X.pn ++ pins) (fun e sa => wpAny (model X.prog X.w) X.A (noteFrame e X.env) (fun _ sb => wpAny (model X.prog X.w) X.A (setFlight e none) (fun _ sc =>
    wpAny (model X.prog X.w) X.A (handleBy e X.env (h0 :: hds)) (SP X pins D) X.xe sc) X.xe sb) X.xe sa) (fun u s2 air => ?_) PassesOwn.looking).run [] s σ H D (I.toTry _) h) (fun f s1 hsp => ?_) (fun e s1 he => he)
  · obtain ⟨a, B, sI, pins2, σ2, H2, cls, d, rfl, J0, nb, up, sky, na, os, ag, w⟩ := air
    have J := J0.ofTry ok
    rw [hs] at sky
    show wpAny (model X.prog X.w) X.A (noteFrame (.ref a) X.env) _ _ _
    refine Sky.land Zc.steady fr0 hf sky fun g3 fl3 up3 => ?_
    have J3 : Inv X pins σ2 H2 { s2 with heap := g3 } := J.landed nb fl3.1 (up.trans up3) os ag
    obtain ⟨o3, vs3, e3, z3, d3⟩ := fl3.there
    have nfr : a ∉ frs (X.env :: X.outer) := fun hm => by
      obtain ⟨_, o', e', hnf⟩ := fl3.2.2.1.mem hm
      rw [e3] at e'
      cases e'
      exact hnf _ d3
    have nL : a ≠ X.env.locals := fun z => nfr (List.mem_filterMap.mpr ⟨X.env, List.mem_cons_self, by rw [hf, z]⟩)
    have nF : a ∉ X.fs := fun hm => by
      obtain ⟨e, he, q⟩ := List.mem_filterMap.mp hm
      exact nfr (List.mem_filterMap.mpr ⟨e, List.mem_cons_of_mem _ he, q⟩)
    have S3 := J3.suite e3 d3 na nL nF
    have look : ∀ {x : Str} {np : Pos} {c : Value} {Q : Value → Shared → Prop} {E : Value → Shared → Prop}, Names X x c → Q c { s2 with heap := g3 } → wpAny (model X.prog X.w) (X.A.mark (some (.ref a))) (eval (.Name x np) X.env) Q E { s2 with heap := g3 } := fun {x np c Q E} hc q => by
      obtain ⟨hg, hdbg, hm | ⟨hm, hv, hnn⟩⟩ := hc
      · exact ld_glob (X := X.suite a ((a, o3) :: (X.pn ++ pins))) S3 hg hm q hdbg
      · exact ld_blt (X := X.suite a ((a, o3) :: (X.pn ++ pins))) S3 hg hm hv q hnn hdbg
    have LT : PySem.W.Looks (model X.prog X.w) g3 (typeOf (.ref a)) cls := fun A Q E s k q => wpAny_typeOf_ref (k _ _ e3) (by rw [z3.1]; exact q)
    have go : ∀ {hds2 : List ExceptHandler} {l2 : List Cls1}, HdsM X hds2 l2 → wMix X.K Wout D l2 cls d σ2 H2 →
        wpAny (model X.prog X.w) X.A (handleBy (.ref a) X.env hds2) (SP X pins D) X.xe { s2 with heap := g3 } := by
      intro hds2 l2 hk
      induction hk with
      | nil =>
        intro w
        refine wpAny_handleBy_nil ?_
        obtain ⟨k1, k2, k3, oe, vs, T, oT, tr, he, hz, hd, h1, hr⟩ := id fl3
        unfold PySem.passOn
        refine wpAny_bind (wpAny_field he hd h1 ?_)
        rw [if_neg (show ¬ ((Value.ref T == Value.none) = true) from by simp)]
        have fin : wpAny (model X.prog X.w) X.A (setFlight (.ref a) X.env.frame) (fun _ s4 => wpAny (model X.prog X.w) X.A (throw (.ref a) : Sem Flow) (SP X pins D) X.xe s4) X.xe { s2 with heap := g3 } := by
          rw [hf]
          refine HandSPX.setFlight_upZ fl3 fun g4 hh4 up4 => wpAny_throw (tk _ _ ?_)
          exact ⟨a, B, sI, pins, σ2, H2, cls, d, rfl, J, nb, (up.trans up3).trans up4, .inr (.inr (by rw [hs]; exact hh4)), na, os, ag, w⟩
        first
          | exact wpAny_bind (wpAny_pure (wpAny_bind fin))
          | exact wpAny_bind fin
      | @plain x c ts b0 suite np p2 hds3 l3 hc su r ih =>
        intro w
        obtain ⟨b, hb1, hyes, hno⟩ := w
        refine wpAny_handleBy_cons (codeAny_handlers_test ?_) (by intro q; cases q)
        refine look hc ((PySem.W.exm_one (M := model X.prog X.w) J3.kIn LT hb1).here ?_)
        cases b with
        | true =>
          refine codeAny_handlers_suite ?_
          refine HandSPX.lands_againZ fl3 fun g4 fl4 up4 => ?_
          have J4 : Inv X pins σ2 H2 { s2 with heap := g4 } := J.landed nb fl4.1 ((up.trans up3).trans up4) os ag
          obtain ⟨o4, vs4, e4, z4, d4⟩ := fl4.there
          refine wpAny_mono ((su a o4 cls d (X.pn ++ pins) z4 ⟨_, d4⟩).run [] _ _ H2 _ (J4.suite e4 d4 na nL nF) (hyes rfl a na)) (fun f s6 hsp => ?_) (fun _ _ z => False.elim z)
          cases f with
          | next => obtain ⟨_, _, S6, q6⟩ := hsp; exact ⟨_, _, S6.unsuite ok, q6⟩
          | brk => obtain ⟨_, _, S6, q6⟩ := hsp; exact ⟨_, _, S6.unsuite ok, q6⟩
          | cont => obtain ⟨_, _, S6, q6⟩ := hsp; exact ⟨_, _, S6.unsuite ok, q6⟩
          | ret u => obtain ⟨_, _, _, S6, r6, q6⟩ := hsp; exact ⟨_, _, _, S6.unsuite ok, r6, q6⟩
        | false =>
          show wpAny _ X.A (handleBy (.ref a) X.env hds3) _ _ _
          exact ih (hno rfl)
      | @named x n i c ts b0 suite np p2 hds3 l3 hN hi hln hc su r ih =>
        intro w
        obtain ⟨b, hb1, hyes, hno⟩ := w
        refine wpAny_handleBy_cons (codeAny_handlers_test ?_) (by intro q; cases q)
        refine look hc ((PySem.W.exm_one (M := model X.prog X.w) J3.kIn LT hb1).here ?_)
        cases b with
        | true =>
          refine codeAny_handlers_suite_as ?_
          refine HandSPX.lands_againZ fl3 fun g4 fl4 up4 => ?_
          have J4 : Inv X pins σ2 H2 { s2 with heap := g4 } := J.landed nb fl4.1 ((up.trans up3).trans up4) os ag
          obtain ⟨o4, vs4, e4, z4, d4⟩ := fl4.there
          refine store_ok (X := X.suite a ((a, o4) :: (X.pn ++ pins))) (v := .ref a) (J4.suite e4 d4 na nL nF) hN hi (.inl hln) rfl (fun s5 S5 => ?_) (.inr hln)
          refine wpAny_mono ((su a o4 cls d (X.pn ++ pins) z4 ⟨_, d4⟩).run [] s5 _ H2 _ S5 (hyes rfl a na)) (fun f s6 hsp => ?_) (fun _ _ z => False.elim z)
          have away : ∀ {σ6 : L2.St} {H6 : Hp} {Q : Shared → Prop}, Inv (X.suite a ((a, o4) :: (X.pn ++ pins))) [] σ6 H6 s6 → (∀ s7, Inv X pins (σ6.set i none) H6 s7 → Q s7) →
              wpAny (model X.prog X.w) X.A (do bindName X.env n .none; unbindBehindTheSuite X.env n p2) (fun _ s7 => Q s7) X.xe s6 := fun {σ6 H6 Q} S6 hq => gone_ok (S6.unsuite ok) hN hi hln hq
          cases f with
          | next => obtain ⟨_, _, S6, q6⟩ := hsp; exact away S6 fun s7 J7 => ⟨_, _, J7, q6⟩
          | brk => obtain ⟨_, _, S6, q6⟩ := hsp; exact away S6 fun s7 J7 => ⟨_, _, J7, q6⟩
          | cont => obtain ⟨_, _, S6, q6⟩ := hsp; exact away S6 fun s7 J7 => ⟨_, _, J7, q6⟩
          | ret u => obtain ⟨_, _, _, S6, r6, q6⟩ := hsp; exact away S6 fun s7 J7 => ⟨_, _, _, J7, r6, q6⟩
        | false =>
          show wpAny _ X.A (handleBy (.ref a) X.env hds3) _ _ _
          exact ih (hno rfl)
    exact go hh w
  · cases f with
    | next => obtain ⟨_, _, S6, q6⟩ := hsp; exact wpAny_execs_nil ⟨_, _, S6.ofTry ok, q6⟩
    | brk => obtain ⟨_, _, S6, q6⟩ := hsp; exact ⟨_, _, S6.ofTry ok, q6⟩
    | cont => obtain ⟨_, _, S6, q6⟩ := hsp; exact ⟨_, _, S6.ofTry ok, q6⟩
    | ret u => obtain ⟨_, _, _, S6, r6, q6⟩ := hsp; exact ⟨_, _, _, S6.ofTry ok, r6, q6⟩
end
end Rz

namespace Rz
open PySem PySem.Spec PyProof.Rows L2
/-! ### calls whose exceptions are wished for at the caller's slots -/
abbrev EX := L2.St → XK
/-- nothing is let out -/
abbrev EN : EX := fun _ => E0
theorem atN {X : Cx} (σ : L2.St) : PassesAt (L2.CX X.prog X.w) X σ (EN σ) := fun _ _ _ _ _ _ h => by
  obtain ⟨_, _, _, _, _, _, _, _, _, _, _, _, z⟩ := h
  exact z.elim
section
variable {X : Cx} {CX : CXT} {k : Nat} {f C : Addr} {fd : FuncData} {ps : List Str} {sp : Sp} {dvs : List V} {ds : List Value} {E : EX} {x m : Str} {p pos apos : Pos} {e o : Expr} {es : List Expr} {ta : TE} {t : TA}
theorem run_X {pins : List (Addr × Obj)} {σ : L2.St} {H : Hp} {s : Shared} {Q : VK} {us : List Value} {vs : List V} {A : Around} (F : FnOk X.prog X.w X.K X.mg X.base CX k f fd ps sp) (hr : Room k A) (hfr : A.frames = X.A.frames) (hb : Binds X.K fd ps ds) (hd : Vals dvs ds) (hx : PassesAt CX X σ (E σ))
    (I : Inv X pins σ H s) (r : Vals vs us) (h : sp (vs ++ dvs) H Q (E σ)) : codeAny (model X.prog X.w) A (.call (.ref f) ⟨us, []⟩) (fun q s' => match q with
      | .ok (.ret u) => EP X pins σ Q u s'
      | .ok _ => False
      | .error er => X.xe er s') s := by
  have e0 : Env0 X.prog X.w X.K X.mg X.base A X.stack s H := by
    have z := I.env0
    exact ⟨by rw [hfr]; exact z.frames, z.mod, z.bs, z.bsz, z.funs, z.frf, z.hok, z.bare⟩
  have hz := F.len _ _ _ _ h
  rw [(r.append hd).length] at hz
  refine codeAny_mono (F.run A X.stack s H ⟨us, []⟩ (us ++ ds) (vs ++ dvs) Q (E σ) hr e0 (hb s us I.kIn hz) (r.append hd) h) fun q s' hq => ?_
  match q, hq with
  | .error er, hq => exact hx pins H s er s' I hq
  | .ok (.ret u), hq => exact I.after hq
  | .ok .next, hq => exact hq
  | .ok .brk, hq => exact hq
  | .ok .cont, hq => exact hq
theorem ended {pins : List (Addr × Obj)} {σ : L2.St} {Q : VK} {q : Result} {s' : Shared} (h : match q with
      | .ok (.ret u) => EP X pins σ Q u s'
      | .ok _ => False
      | .error er => X.xe er s') : wants (EP X pins σ Q) X.xe q s' := by
  match q, h with
  | .error er, h => exact h
  | .ok (.ret u), h => exact h
  | .ok .next, h => exact h.elim
  | .ok .brk, h => exact h.elim
  | .ok .cont, h => exact h.elim
theorem run_XC {pins : List (Addr × Obj)} {σ : L2.St} {H : Hp} {s : Shared} {Q : VK} {us : List Value} {vs : List V} (F : FnOk X.prog X.w X.K X.mg X.base CX k f fd ps sp) (hr : Room k X.A) (hb : Binds X.K fd ps ds) (hd : Vals dvs ds) (hx : PassesAt CX X σ (E σ))
    (I : Inv X pins σ H s) (r : Vals vs us) (h : sp (vs ++ dvs) H Q (E σ)) : wpAny (model X.prog X.w) X.A (call (.ref f) us) (EP X pins σ Q) X.xe s :=
  wpAny_call (codeAny_mono (run_X F hr rfl hb hd hx I r h) fun _ _ hq => ended hq)
/-- f(..) -/
def tFn (sp : Sp) (dvs : List V) (E : EX) (t : TA) : TE := fun σ H Q => t σ H fun vs H1 => sp (vs ++ dvs) H1 Q (E σ)
theorem pe_fn (F : FnOk X.prog X.w X.K X.mg X.base CX k f fd ps sp) (hr : Room k X.A) (hg : Gl X x) (hm : X.mg x = some (.ref f)) (hk : PySem.W.keepIn X.K (.ref f) = true) (hb : Binds X.K fd ps ds) (hd : Vals dvs ds) (hx : ∀ σ, PassesAt CX X σ (E σ))
    (ha : PA X (e :: es) t) (hdb : (x == ("__debug__" : Str)) = false := by decide) (he : starEach (e :: es) X.env = (false, eval e X.env) :: starEach es X.env := by rfl) (hpl : (backTo pos (starEach es X.env)).any (·.1) = false := by rfl) :
    PE X (.Call (.Name x p) (e :: es) [] pos) (tFn sp dvs E t) := ⟨fun pins s σ H Q I h =>
  wpAny_Call_Name_kw (ld_glob I hg hm (PySem.W.callWith_K (h₀ := X.base) I.ok.mod.kin hk (thn (ha.run pos pins s σ H _ I h) fun us s1 ⟨vs, H1, J, r, q⟩ => ⟨J.kIn, run_XC F hr hb hd (hx σ) J r q⟩) he hpl) hdb)⟩
theorem pe_fn0 (F : FnOk X.prog X.w X.K X.mg X.base CX k f fd ps sp) (hr : Room k X.A) (hg : Gl X x) (hm : X.mg x = some (.ref f)) (hk : PySem.W.keepIn X.K (.ref f) = true) (hb : Binds X.K fd ps ds) (hd : Vals dvs ds) (hx : ∀ σ, PassesAt CX X σ (E σ))
    (hdb : (x == ("__debug__" : Str)) = false := by decide) : PE X (.Call (.Name x p) [] [] pos) (tFn sp dvs E tNil) := ⟨fun pins s σ H Q I h =>
  wpAny_Call_Name_kw (ld_glob I hg hm (PySem.W.callWith_K0 I.kIn hk (run_XC (us := []) F hr hb hd (hx σ) I .nil h)) hdb)⟩
/-- o.m(..) -/
def tMt (C : Addr) (m : Str) (sp : Sp) (dvs : List V) (E : EX) (ta : TE) (t : TA) : TE := fun σ H Q => ta σ H fun x H1 => ∃ a dx fs, x = .ref a ∧ H1 a = some (.ins C dx fs) ∧ fs.lookup m = none ∧
  t σ H1 fun vs H2 => sp (x :: (vs ++ dvs)) H2 Q (E σ)
theorem pe_mt {pl : Sem Bool} (he : PE X o ta) (c : Cls X.K C) (hm : Meth X.K C m f) (F : FnOk X.prog X.w X.K X.mg X.base CX k f fd ps sp) (hr : Room k X.A) (hb : Binds X.K fd ps ds) (hd : Vals dvs ds) (hx : ∀ σ, PassesAt CX X σ (E σ)) (ha : PA X (e :: es) t)
    (hst : starEach (e :: es) X.env = (false, eval e X.env) :: starEach es X.env := by rfl) (hpl : (backTo pos (starEach es X.env)).any (·.1) = false := by rfl)
    (ht : eval (.Call (.Attribute o m apos) (e :: es) [] pos) X.env = (do
      let ov ← eval o X.env
      standAt apos.atName
      let (f, first) ← holding [ov] (getMethod ov m pl)
      callWith pos f first (backTo pos (starEach (e :: es) X.env)) (backToKw pos (keywordEach [] X.env))) := by rfl) :
    PE X (.Call (.Attribute o m apos) (e :: es) [] pos) (tMt C m sp dvs E ta t) := by
  refine ⟨fun pins s σ H Q I h => PySem.W.methodCall_KW (pl := pl) (thn (he.run pins s σ H _ I h) fun u s1 hh => ?_) ht⟩
  obtain ⟨x, H1, J, rx, a, dx, fs, rfl, ea, l, q⟩ := hh
  obtain rfl : u = Value.ref a := rx
  refine getmeth_ok J ea c hm l (PySem.W.callWith_K (first := [.ref a]) (h₀ := X.base) I.ok.mod.kin hm.kp (thn (ha.run pos pins s1 σ H1 _ J q) fun us s2 ⟨vs, H2, J2, r, q2⟩ => ⟨J2.kIn, ?_⟩) hst hpl)
  exact run_XC (us := .ref a :: us) (vs := .ref a :: vs) F hr hb hd (hx σ) J2 (.cons rfl r) q2
theorem pe_mt0 {pl : Sem Bool} (he : PE X o ta) (c : Cls X.K C) (hm : Meth X.K C m f) (F : FnOk X.prog X.w X.K X.mg X.base CX k f fd ps sp) (hr : Room k X.A) (hb : Binds X.K fd ps ds) (hd : Vals dvs ds) (hx : ∀ σ, PassesAt CX X σ (E σ))
    (ht : eval (.Call (.Attribute o m apos) [] [] pos) X.env = (do
      let ov ← eval o X.env
      standAt apos.atName
      let (f, first) ← holding [ov] (getMethod ov m pl)
      callWith pos f first (backTo pos (starEach [] X.env)) (backToKw pos (keywordEach [] X.env))) := by rfl) :
    PE X (.Call (.Attribute o m apos) [] [] pos) (tMt C m sp dvs E ta tNil) := by
  refine ⟨fun pins s σ H Q I h => PySem.W.methodCall_KW (pl := pl) (thn (he.run pins s σ H _ I h) fun u s1 hh => ?_) ht⟩
  obtain ⟨x, H1, J, rx, a, dx, fs, rfl, ea, l, q⟩ := hh
  obtain rfl : u = Value.ref a := rx
  refine getmeth_ok J ea c hm l (PySem.W.callWith_K0 (first := [.ref a]) J.kIn hm.kp ?_)
  exact run_XC (us := [.ref a]) (vs := [.ref a]) F hr hb hd (hx σ) J (.cons rfl .nil) q
/-- C(..): a new instance, then its __init__ -/
def tMk (C : Addr) (sp : Sp) (dvs : List V) (E : EX) (t : TA) : TE := fun σ H Q => t σ H fun vs H1 => ∀ x dx, H1 x = none → H1 dx = none → dx ≠ x →
  sp (.ref x :: (vs ++ dvs)) (upd (upd H1 dx (.own x)) x (.ins C dx [])) (fun v H2 => v = .non ∧ Q (.ref x) H2) (E σ)
theorem run_mk {pins : List (Addr × Obj)} {σ : L2.St} {H : Hp} {s : Shared} {Q : VK} {us : List Value} {vs : List V} (M : Mk X.K C f) (F : FnOk X.prog X.w X.K X.mg X.base CX k f fd ps sp) (hr : Room (k + 1) X.A) (hb : Binds X.K fd ps ds) (hd : Vals dvs ds)
    (hx : PassesAt CX X σ (E σ)) (I : Inv X pins σ H s) (r : Vals vs us)
    (h : ∀ x dx, H x = none → H dx = none → dx ≠ x → sp (.ref x :: (vs ++ dvs)) (upd (upd H dx (.own x)) x (.ins C dx [])) (fun v H2 => v = .non ∧ Q (.ref x) H2) (E σ)) :
    wpAny (model X.prog X.w) X.A (call (.ref C) us) (EP X pins σ Q) X.xe s := by
  have hq := h (s.heap.objs.size + 1) s.heap.objs.size (I.hok.fresh (Nat.le_succ _)) (I.hok.fresh (Nat.le_refl _)) (Nat.ne_of_lt (Nat.lt_succ_self _))
  have J := Inv.made (C := C) I
  refine wpAny_call (make_map (f := f) I.kIn M.makes M.init (beq_iff_eq.mp M.fn) (codeAny_mono (run_X (vs := .ref (s.heap.objs.size + 1) :: vs) (us := .ref (s.heap.objs.size + 1) :: us) F (hr.make C us []) ((J.env0.make C us []).frames.trans J.ok.frames.symm) hb hd hx J (.cons rfl r) hq) fun q s' hq' => ?_))
  match q, hq' with
  | .error er, hq' => exact hq'
  | .ok (.ret u), hq' =>
    obtain ⟨v, H2, J2, rv, ev, q3⟩ := hq'
    subst ev
    exact ⟨rv, ⟨V.ref (s.heap.objs.size + 1), H2, J2, rfl, q3⟩⟩
  | .ok .next, hq' => exact hq'.elim
  | .ok .brk, hq' => exact hq'.elim
  | .ok .cont, hq' => exact hq'.elim
theorem pe_mk (M : Mk X.K C f) (F : FnOk X.prog X.w X.K X.mg X.base CX k f fd ps sp) (hr : Room (k + 1) X.A) (hg : Gl X x) (hm : X.mg x = some (.ref C)) (hb : Binds X.K fd ps ds) (hd : Vals dvs ds) (hx : ∀ σ, PassesAt CX X σ (E σ))
    (ha : PA X (e :: es) t) (hdb : (x == ("__debug__" : Str)) = false := by decide) (he : starEach (e :: es) X.env = (false, eval e X.env) :: starEach es X.env := by rfl) (hpl : (backTo pos (starEach es X.env)).any (·.1) = false := by rfl) :
    PE X (.Call (.Name x p) (e :: es) [] pos) (tMk C sp dvs E t) := ⟨fun pins s σ H Q I h =>
  wpAny_Call_Name_kw (ld_glob I hg hm (PySem.W.callWith_K (h₀ := X.base) I.ok.mod.kin M.kp (thn (ha.run pos pins s σ H _ I h) fun us s1 ⟨vs, H1, J, r, q⟩ => ⟨J.kIn, run_mk M F hr hb hd (hx σ) J r q⟩) he hpl) hdb)⟩
theorem pe_mk0 (M : Mk X.K C f) (F : FnOk X.prog X.w X.K X.mg X.base CX k f fd ps sp) (hr : Room (k + 1) X.A) (hg : Gl X x) (hm : X.mg x = some (.ref C)) (hb : Binds X.K fd ps ds) (hd : Vals dvs ds) (hx : ∀ σ, PassesAt CX X σ (E σ))
    (hdb : (x == ("__debug__" : Str)) = false := by decide) : PE X (.Call (.Name x p) [] [] pos) (tMk C sp dvs E tNil) := ⟨fun pins s σ H Q I h =>
  wpAny_Call_Name_kw (ld_glob I hg hm (PySem.W.callWith_K0 I.kIn M.kp (run_mk (us := []) M F hr hb hd (hx σ) I .nil h)) hdb)⟩
/-- e.f, a property -/
def tPr (C : Addr) (sp : Sp) (E : EX) (ta : TE) : TE := fun σ H Q => ta σ H fun x H1 => ∃ a dx fs, x = .ref a ∧ H1 a = some (.ins C dx fs) ∧ sp [.ref a] H1 Q (E σ)
theorem pe_pr {p g : Addr} {fn : Str} (he : PE X e ta) (c : Cls X.K C) (hp : PropOf X.K C fn p g) (F : FnOk X.prog X.w X.K X.mg X.base CX k g fd ps sp) (hr : Room (k + 1) X.A) (hb : Binds X.K fd ps []) (hx : Passes CX X.nox E0)
    (hab : attributeBase e fn X.env (eval e X.env) = eval e X.env := by rfl) : PE X (.Attribute e fn pos) (tPr C sp EN ta) := by
  have z := pe_prop (pos := pos) he c hp F hr hb .nil hx hab
  exact z
end
/-- .. nothing leaves -/
theorem passN {X : Cx} : Passes (L2.CX X.prog X.w) X E0 := fun _ σ H s e s' I h => atN (X := X) σ [] H s e s' (I.pins_of (pins' := []) fun p hp => by cases hp) h
end Rz

namespace Rz
open PySem PySem.Spec PyProof.Rows L2
/-! ### short words -/
/-- all but what stands at D is as it was -/
def But (D : List Addr) (H H' : Hp) : Prop := ∀ b o, b ∉ D → H b = some o → H' b = some o
theorem But.refl (D : List Addr) (H : Hp) : But D H H := fun _ _ _ h => h
theorem But.trans {D : List Addr} {H H1 H2 : Hp} (a : But D H H1) (b : But D H1 H2) : But D H H2 := fun c o n h => b c o n (a c o n h)
theorem But.mono {D D' : List Addr} {H H' : Hp} (a : But D H H') (h : ∀ b ∈ D, b ∈ D') : But D' H H' := fun c o n e => a c o (fun z => n (h c z)) e
theorem But.of {D : List Addr} {H H' : Hp} (h : Same H H') : But D H H' := fun b o _ e => h b o e
theorem But.same {H H' : Hp} (h : But [] H H') : Same H H' := fun b o e => h b o (by simp) e
theorem But.at {D : List Addr} {H H' : Hp} {b : Addr} {o : HO} (h : But D H H') (e : H b = some o) (n : b ∉ D := by simp) : H' b = some o := h b o n e
theorem But.upd {D : List Addr} {H H' : Hp} {p : Addr} {o : HO} (h : But D H H') (hp : p ∈ D ∨ H p = none) : But D H (upd H' p o) := fun b u n e => by
  have nb : b ≠ p := fun z => by
    subst z
    rcases hp with hp | hp
    · exact n hp
    · rw [hp] at e; cases e
  rw [upd_ne nb]
  exact h b u n e
theorem Same.upd {H H' : Hp} {p : Addr} {o : HO} (h : Same H H') (hp : H p = none) : Same H (upd H' p o) := fun b u e => by
  have nb : b ≠ p := fun z => by
    subst z
    rw [hp] at e; cases e
  rw [upd_ne nb]
  exact h b u e
theorem Same.new {H H' : Hp} {p : Addr} {o : HO} (h : Same H H') (hp : H' p = none) : Same H (L2.upd H' p o) := Rz.Same.upd h (h.free hp)
theorem Same.seqT {K : PySem.W.Frag} {H H' : Hp} {a : Addr} {xs : List V} (e : Same H H') (h : SqT K H a xs) : SqT K H' a xs := by
  rcases h with (h | ⟨o, h⟩) | h
  · exact .inl (.inl (e _ _ h))
  · exact .inl (.inr ⟨o, e _ _ h⟩)
  · exact .inr h
theorem But.free {D : List Addr} {H H' : Hp} (e : But D H H') {l : Addr} (n : l ∉ D) (h : H' l = Option.none) : H l = Option.none := by
  cases q : H l with
  | none => rfl
  | some o => rw [e l o n q] at h; cases h
section
variable {P : Program} {w : World} {K : PySem.W.Frag} {mg : Str → Option Value} {base : Heap}
/-- a def that lets nothing out -/
theorem Fun.okN {x qual : Str} {st : Stmt} {f : Addr} {fd : FuncData} {N ps : List Str} {k : Nat} {sp : Sp} (F : Fun K x qual st f fd) (S : FnScope N ps (defScope st)) (len : ∀ vs H Q E, sp vs H Q E → vs.length = ps.length)
    (hb : ∀ (cdv : Value) (A : Around) (outer : List Env) (s : Shared) (H : Hp) (vs : List V) (Q : VK) (E : XK), Room k (A.deeper (envOfC qual (defScope st) s.heap.objs.size f cdv)) → sp vs H Q E →
      ∃ t, PSs (cxOf (L2.CX P w) P w K mg base N qual (defScope st) f cdv A outer s H E).nox (defBody st) t ∧ t { nx := fun _ H' => Q .non H', rt := Q } (start N vs) H) : FnOk P w K mg base (L2.CX P w) (k + 1) f fd ps sp :=
  F.okX S len fun cdv A outer s H vs Q E hr h => let ⟨t, h1, h2⟩ := hb cdv A outer s H vs Q E hr h; ⟨t, h1.nox, h2⟩
end
/-! ### the law's draws -/
def Dr (H : Hp) (d : Addr) : Prop := ∃ ns : List Int, H d = some (.lst (ns.map V.int)) ∧ ns.length ≤ 4000
theorem Dr.same {H H' : Hp} {d : Addr} (h : Dr H d) (e : Same H H') : Dr H' d := let ⟨ns, h1, h2⟩ := h; ⟨ns, e _ _ h1, h2⟩
theorem mapi_get {ns : List Int} {i : Nat} {y : V} (h : (ns.map V.int)[i]? = some y) : ∃ u, ns[i]? = some u ∧ y = .int u := by
  rw [List.getElem?_map] at h
  cases e : ns[i]? with
  | none => rw [e] at h; cases h
  | some u => rw [e] at h; exact ⟨u, rfl, (Option.some.inj h).symm⟩
theorem no_cx : ∀ {P : Program} (w : World) (H : Hp) (s : Shared) (e : Value) (s' : Shared), L2.CX P w [] H s (fun _ _ _ => False) e s' → False := fun _ _ _ _ _ h => by
  obtain ⟨_, _, _, _, _, _, _, _, _, _, _, _, z⟩ := h
  exact z
end Rz
namespace Rz
open PySem PySem.Spec PyProof.Rows L2
theorem joinL_nil : ∀ ps : List (List Nat), TL.joinL [] ps = ps.flatten
  | [] => rfl
  | [p] => by simp [TL.joinL]
  | p :: q :: r => by
    have ih := joinL_nil (q :: r)
    show p ++ ([] ++ TL.joinL [] (q :: r)) = _
    rw [ih]
    simp
theorem join0 (ys : List Str) : (Txt.join "" ys).cps.toList = (ys.map fun y => y.cps.toList).flatten := by
  rw [TL.join_eq]
  exact (TL.tl_join "" ys).trans (joinL_nil _)
theorem join0_len (ys : List Str) : (Txt.join "" ys).length = (ys.map fun y => y.length).sum := by
  have h := congrArg List.length (join0 ys)
  rw [List.length_flatten, List.map_map] at h
  exact h
/-- every sign of x is one of z -/
def Over (z x : Str) : Prop := ∀ c ∈ x.cps.toList, c ∈ z.cps.toList
theorem over_join {z : Str} {ys : List Str} (h : ∀ y ∈ ys, Over z y) : Over z (Txt.join "" ys) := fun c hc => by
  rw [join0, List.mem_flatten] at hc
  obtain ⟨l, hl, hc⟩ := hc
  obtain ⟨y, hy, rfl⟩ := List.mem_map.mp hl
  exact h y hy c hc
theorem sum_ones : ∀ {ys : List Str}, (∀ y ∈ ys, y.length = 1) → (ys.map fun y => y.length).sum = ys.length
  | [], _ => rfl
  | y :: r, h => by
    rw [List.map_cons, List.sum_cons, sum_ones (ys := r) fun z hz => h z (List.mem_cons_of_mem _ hz), h y List.mem_cons_self, List.length_cons]
    omega
theorem atI_in {α : Type} {xs : List α} {r : Int} (h0 : 0 ≤ r) (h1 : r < xs.length) : ∃ v, v ∈ xs ∧ atI xs r = some v := by
  obtain ⟨n, rfl⟩ := Int.eq_ofNat_of_zero_le h0
  have hn : n < xs.length := by omega
  exact ⟨xs[n], List.getElem_mem hn, atI_nat (List.getElem?_eq_getElem hn)⟩
theorem yesT {σ : L2.St} {H : Hp} {A B : Hp → Prop} (h : A H) : tYes σ H fun b H3 => if b = true then A H3 else B H3 := by
  show (if true = true then A H else B H)
  rw [if_pos rfl]
  exact h
theorem len_list (z : Str) : z.cps.toList.length = z.length := rfl
end Rz
namespace Rz
open PySem PySem.Spec PyProof.Rows L2
/-! ### signs -/
def abc : Str := "abcdefghijklmnopqrstuvwxyz"
def oddC (c : Nat) : Bool := !decide (c ∈ abc.cps.toList)
/-- the place of the first character that is no sign -/
def fo (z : Str) : Option Nat := z.cps.toList.findIdx? oddC
def foI (z : Str) : Int := match fo z with
  | some i => (i : Int)
  | none => -1
theorem fo_some {z : Str} {i : Nat} {c : Nat} (h : z.cps.toList[i]? = some c) (ho : oddC c = true) (hb : ∀ (j c : Nat), j < i → z.cps.toList[j]? = some c → oddC c = false) : fo z = some i := by
  obtain ⟨hi, hc⟩ := List.getElem?_eq_some_iff.mp h
  refine List.findIdx?_eq_some_iff_getElem.mpr ⟨hi, by rw [hc]; exact ho, fun j hj => ?_⟩
  have e := hb j _ hj (List.getElem?_eq_getElem (Nat.lt_trans hj hi))
  rw [e]
  exact Bool.false_ne_true
theorem fo_none {z : Str} (h : ∀ (j c : Nat), z.cps.toList[j]? = some c → oddC c = false) : fo z = none :=
  List.findIdx?_eq_none_iff.mpr fun c hc => by
    obtain ⟨j, hj, e⟩ := List.getElem_of_mem hc
    exact h j c (by rw [List.getElem?_eq_getElem hj, e])
theorem fo_lt {z : Str} {i : Nat} (h : fo z = some i) : i < z.length := by
  obtain ⟨hi, _⟩ := List.findIdx?_eq_some_iff_getElem.mp h
  exact hi
theorem log_small {n : Int} {k : Nat} (h : n.natAbs < 2 ^ k) (hk : k ≤ 1919) : n.natAbs.log2 < 1920 := by
  by_cases h0 : n.natAbs = 0
  · rw [h0]
    decide
  · exact Nat.lt_of_lt_of_le ((Nat.log2_lt h0).mpr h) (by omega)
theorem log_nat {i : Nat} (h : i < 2 ^ 64) : (i : Int).natAbs.log2 < 1920 := log_small (k := 64) (by simpa using h) (by decide)
end Rz
namespace Rz
open PySem PySem.Spec PyProof.Rows L2
/-- what is asked where such an exception is made, and what is known then -/
theorem raise_fld {C : Addr} {fld : Str} {n : Int} {H1 : Hp} {Q : XK} (hn : n.natAbs.log2 < 1920) (q : ∀ H' d, Same H1 H' → H1 d = none → H' d = some (.xd [(fld, .int n)]) → Q (.ref C) (some d) H') :
    ∀ a, H1 a = none → spExI C fld (.ref a :: ([V.int n] ++ [])) (upd H1 a (exo a C none))
      (fun v H2 => v = .non ∧ ∃ (d : Addr) (fs : List (Str × V)), H2 a = some (exo a C (some d)) ∧ H2 d = some (exd d fs) ∧ H1 d = none ∧ Q (.ref C) (some d) (upd (del H2 a) d (.xd fs))) (fun _ _ _ => False) := fun a ha => by
  refine ⟨a, n, rfl, hn, upd_same, fun dx hdx nda => ⟨rfl, dx, [(fld, .int n)], by rw [upd_same], ?_, ?_, ?_⟩⟩
  · rw [upd_ne nda, upd_same]
  · rw [upd_ne nda] at hdx
    exact hdx
  · have hd1 : H1 dx = none := by
      rw [upd_ne nda] at hdx
      exact hdx
    refine q _ dx (fun b o e => ?_) hd1 upd_same
    have nba : b ≠ a := ne_of_none e ha
    have nbd : b ≠ dx := ne_of_none e hd1
    rw [upd_ne nbd, del_ne nba, upd_ne nba, upd_ne nbd, upd_ne nba]
    exact e
end Rz

namespace Rz
open PySem PySem.Spec PyProof.Rows L2
/-! ### data: lists of ints -/
abbrev dInts (ns : List Int) : PyData := .list (ns.map PyData.int)
theorem all_ints_lay : ∀ ns : List Int, PyData.canLayAll0 (ns.map PyData.int) = true
  | [] => rfl
  | n :: ns => by simp only [List.map_cons, PyData.canLayAll0, PyData.canLay0, all_ints_lay ns, Bool.and_self]
theorem all_ints_depth : ∀ ns : List Int, PyData.depthAll (ns.map PyData.int) = 0
  | [] => rfl
  | n :: ns => by simp only [List.map_cons, PyData.depthAll, PyData.depth, all_ints_depth ns, Nat.max_self]
theorem ints_shaped (ns : List Int) : SeqAt.shaped (dInts ns) = true := by
  have h : PyData.depth (dInts ns) ≤ 64 := by
    show PyData.depthAll (ns.map PyData.int) + 1 ≤ 64
    rw [all_ints_depth]
    decide
  show (PyData.canLayAll0 (ns.map PyData.int) && decide (PyData.depth (dInts ns) ≤ 64)) = true
  rw [all_ints_lay, decide_eq_true h]
  rfl
theorem ints_eqvA : ∀ a b : List Int, PyData.eqvAll (a.map PyData.int) (b.map PyData.int) = decide (a = b)
  | [], [] => rfl
  | [], _ :: _ => by simp [PyData.eqvAll]
  | _ :: _, [] => by simp [PyData.eqvAll]
  | x :: xs, y :: ys => by
    rw [List.map_cons, List.map_cons, PyData.eqvAll, ints_eqvA xs ys]
    show ((x == y) && decide (xs = ys)) = _
    by_cases h : x = y
    · subst h; simp
    · simp [h]
theorem ints_eqv (a b : List Int) : PyData.eqv (dInts a) (dInts b) = decide (a = b) := by
  show PyData.eqvAll _ _ = _
  exact ints_eqvA a b
theorem dp_intsA {K : PySem.W.Frag} {H : Hp} : ∀ ns : List Int, DpAll K H (ns.map V.int) (ns.map PyData.int)
  | [] => .nil
  | n :: ns => .cons (.int n) (dp_intsA ns)
theorem dp_ints {K : PySem.W.Frag} {H : Hp} {a : Addr} {ns : List Int} (h : SqL K H a (ns.map V.int)) : Dp K H (.ref a) (dInts ns) := .lst h (dp_intsA ns)
end Rz

namespace Rz
open PySem PySem.Spec PyProof.Rows L2
/-! ### the class's own special methods -/
section
variable {X : Cx} {k : Nat} {f C a dx : Addr} {fs : List (Str × V)} {fd : FuncData} {ps : List Str} {sp : Sp} {pins : List (Addr × Obj)} {σ : L2.St} {H : Hp} {s : Shared}
/-- the instance as the library's rules want it -/
theorem inst_at (I : Inv X pins σ H s) (e : H a = some (.ins C dx fs)) : ∃ od, PySem.W.InstAt s.heap a (PySem.W.instObj C dx) C (some od) := by
  obtain ⟨mA, O, _⟩ := ins_get I.hok e
  obtain ⟨od, J, _⟩ := O.look
  exact ⟨od, J⟩
/-- the def called somewhere below the running body, nothing leaves it -/
theorem run_below {Q : VK} {us : List Value} {vs : List V} {A : Around} {E' : Value → Shared → Prop} (F : FnOk X.prog X.w X.K X.mg X.base (L2.CX X.prog X.w) k f fd ps sp) (hr : Room k A) (hfr : A.frames = X.A.frames) (hb : Binds X.K fd ps [])
    (I : Inv X pins σ H s) (r : Vals vs us) (h : sp vs H Q E0) : wpAny (model X.prog X.w) A (call (.ref f) us) (EP X pins σ Q) E' s := by
  have z := run_X (E := EN) (X := X.nox) (A := A) (pins := pins) (σ := σ) (Q := Q) F hr hfr hb .nil (atN (X := X.nox) σ) (I.wish _) r (by rw [List.append_nil]; exact h)
  refine wpAny_call (codeAny_mono z fun q s' hq => ?_)
  match q, hq with
  | .error er, hq => exact hq.elim
  | .ok (.ret u), hq =>
    obtain ⟨v, H', J, rv, q⟩ := hq
    exact ⟨v, H', J.unwish, rv, q⟩
  | .ok .next, hq => exact hq.elim
  | .ok .brk, hq => exact hq.elim
  | .ok .cont, hq => exact hq.elim
/-- str(x) by the own __str__ -/
theorem call_strO (M : Meth X.K C "__str__" f) (F : FnOk X.prog X.w X.K X.mg X.base (L2.CX X.prog X.w) k f fd ps sp) (hr : Room (k + 2) X.A) (hb : Binds X.K fd ps []) :
    CallR X (.type "str") (fun xs H Q => ∃ a dx fs, xs = [.ref a] ∧ H a = some (.ins C dx fs) ∧ sp [.ref a] H (fun v H' => (∃ z, v = .str z) ∧ Q v H') E0) := by
  intro pins s σ H xs us Q I r h
  obtain ⟨a, dx, fs, rfl, ea, hq⟩ := h
  obtain ⟨u, rfl, ru⟩ := vals1 r
  obtain rfl : u = Value.ref a := ru
  obtain ⟨od, J⟩ := inst_at I ea
  refine PySem.W.kso_call hr.in1.in1.units0 I.kIn J M.at_ M.fn (wpAny_mono (run_below (vs := [.ref a]) F hr.in1.in1 rfl hb I (.cons rfl .nil) hq) (fun v s' hv => ?_) fun _ _ z => z)
  obtain ⟨x, H', J', rx, ⟨z, rfl⟩, q⟩ := hv
  obtain ⟨t, rfl⟩ := rx
  show EP X pins σ Q _ _
  exact ⟨.str z, H', J', ⟨t, rfl⟩, q⟩
end
end Rz

namespace Rz
open PySem PySem.Spec PyProof.Rows L2
open Sem (wp)
/-! ### list(zip(text, list)) -/
theorem zip_nolen : typeLookup (.type "zip") "__len__" = pure Option.none := am_miss_of_fast (by decide +kernel)
theorem zip_nohint : typeLookup (.type "zip") "__length_hint__" = pure Option.none := am_miss_of_fast (by decide +kernel)
section
variable {prog : Program} {w : World} {A : Around} {E : Value → Shared → Prop} {s : Shared} {zz TI TO T i1 i2 L : Addr} {f1 f2 : List Addr} {n1 n2 i n : Nat} {P1 P2 : Nat → Value → Prop} {S1 S2 : Nat → Heap → Prop} {fl : Bool} {oT : Obj}

/-- next of a zip whose tuple is still out -/
theorem zh_item {Q : Value → Shared → Prop} (Z : ZipSep2 zz TI TO i1 i2 f1 f2) (D1 : Draws prog w A i1 f1 n1 P1 S1) (D2 : Draws prog w A i2 f2 n2 P2 S2)
    (gz : IsZipHeld s.heap zz TI TO T fl) (gT : s.heap.get? T = some oT) (gI : IsTupOf2 s.heap TI (.ref i1) (.ref i2)) (t1 : S1 i s.heap) (t2 : S2 i s.heap) (l1 : i < n1) (l2 : i < n2)
    (hQ : ∀ x y h' tk, P1 i x → P2 i y → IsZipHeld h' zz TI TO T true → S1 (i + 1) h' → S2 (i + 1) h' → IsTupOf2 h' s.heap.objs.size x y → h'.objs.size = s.heap.objs.size + 1 →
      (∀ c o, c ≠ zz → c ≠ i1 → c ≠ i2 → s.heap.get? c = some o → h'.get? c = some o) → Q (.ref s.heap.objs.size) { s with heap := h', toks := tk }) :
    wpAny (model prog w) A (Builtin.«zip.__next__» ⟨[.ref zz], []⟩) (fun fin s' => ∃ v, fin = .done (.ret v) ∧ Q v s') E s := by
  obtain ⟨hp, g, d, tk0, os⟩ := s
  show wpAny _ _ (field (.ref zz) 2 >>= _) _ _ _
  refine wpAny_bind (wpAny_field gz rfl (x := .bool false) rfl ?_)
  show wpAny _ _ (field (.ref zz) 3 >>= _) _ _ _
  refine wpAny_bind (wpAny_field gz rfl (x := .ref TI) rfl ?_)
  refine wpAny_bind (wpAny_seqItems gI rfl ?_)
  show wpAny _ _ (Builtin.SmallTypes.ownedTupleIsFree (.ref zz) >>= _) _ _ _
  refine wpAny_bind (wpAny_tupleHeld_zip gz gT fun h1 gz1 s1 => ?_)
  simp only [Bool.false_eq_true, if_false]
  refine wpAny_bind ?_
  rw [← Array.forIn_toList]
  simp only [List.forIn_cons, List.forIn_nil]
  refine wpAny_bind (wpAny_bind (wpAny_holding ?_))
  show wpAny _ _ (Builtin.SmallTypes.nextOf (.ref i1) >>= _) _ _ ⟨h1, g, d, tk0, os⟩
  refine wpAny_bind (D1.item i _ _ _ l1 (D1.over t1 s1 Z.zf1) fun x h2 tk1 px u1 s2 => wpAny_pure (wpAny_pure ?_))
  replace s2 : Heap.SameBut i1 h1 h2 := s2
  refine wpAny_bind (wpAny_bind (wpAny_holding ?_))
  show wpAny _ _ (Builtin.SmallTypes.nextOf (.ref i2) >>= _) _ _ ⟨h2, g, d, tk1, os⟩
  refine wpAny_bind (D2.item i _ _ _ l2 (D2.over (D2.over t2 s1 Z.zf2) s2 Z.sep1_2) fun y h3 tk2 py u2 s3 => wpAny_pure (wpAny_pure (wpAny_pure ?_)))
  replace s3 : Heap.SameBut i2 h2 h3 := s3
  show wpAny _ _ (newTuple [x, y] >>= _) _ _ ⟨h3, g, d, tk2, os⟩
  refine wpAny_bind (wpAny_newTuple ?_)
  have size3 : h3.objs.size = hp.objs.size := by rw [s3.1, s2.1, s1.1]
  have gz3 : IsZipHeld h3 zz TI TO T true := s3.extBut _ _ Z.zi2 (s2.extBut _ _ Z.zi1 gz1)
  have kk : ∀ c o, c ≠ zz → c ≠ i1 → c ≠ i2 → hp.get? c = some o → h3.get? c = some o := fun c o c1 c2 c3 e => s3.extBut _ _ c3 (s2.extBut _ _ c2 (s1.extBut _ _ c1 e))
  refine wpAny_pure ⟨_, rfl, ?_⟩
  show Q (.ref h3.objs.size) ⟨h3.push { cls := .type "tuple", data := .seq #[x, y] }, g, d, tk2, os⟩
  have new : IsTupOf2 (h3.push { cls := .type "tuple", data := .seq #[x, y] }) h3.objs.size x y := Heap.get?_push_size _ rfl
  have size4 : (h3.push { cls := .type "tuple", data := .seq #[x, y] }).objs.size = h3.objs.size + 1 := Heap.size_push ..
  rw [size3] at new size4 ⊢
  exact hQ x y _ tk2 px py (Heap.get?_push_of_some _ gz3) (D1.frame _ _ _ (D1.over u1 s3 Z.sep2_1) fun b _ o e => Heap.get?_push_of_some _ e) (D2.frame _ _ _ u2 fun b _ o e => Heap.get?_push_of_some _ e) new size4 fun c o c1 c2 c3 e => Heap.get?_push_of_some _ (kk c o c1 c2 c3 e)

theorem zh_end {Q : Fin → Shared → Prop} (Z : ZipSep2 zz TI TO i1 i2 f1 f2) (D1 : Draws prog w A i1 f1 n1 P1 S1) (D2 : Draws prog w A i2 f2 n2 P2 S2)
    (gz : IsZipHeld s.heap zz TI TO T fl) (gT : s.heap.get? T = some oT) (gI : IsTupOf2 s.heap TI (.ref i1) (.ref i2)) (t1 : S1 i s.heap) (t2 : S2 i s.heap) (hn1 : i = n1) 
    (hE : ∀ h' tk e, (∀ c o, c ≠ zz → c ≠ i1 → c ≠ i2 → s.heap.get? c = some o → h'.get? c = some o) → (∃ o, h'.get? e = some o ∧ o.cls = .type "StopIteration") → E (.ref e) { s with heap := h', toks := tk }) :
    wpAny (model prog w) A (Builtin.«zip.__next__» ⟨[.ref zz], []⟩) Q E s := by
  obtain ⟨hp, g, d, tk0, os⟩ := s
  show wpAny _ _ (field (.ref zz) 2 >>= _) _ _ _
  refine wpAny_bind (wpAny_field gz rfl (x := .bool false) rfl ?_)
  show wpAny _ _ (field (.ref zz) 3 >>= _) _ _ _
  refine wpAny_bind (wpAny_field gz rfl (x := .ref TI) rfl ?_)
  refine wpAny_bind (wpAny_seqItems gI rfl ?_)
  show wpAny _ _ (Builtin.SmallTypes.ownedTupleIsFree (.ref zz) >>= _) _ _ _
  refine wpAny_bind (wpAny_tupleHeld_zip gz gT fun h1 gz1 s1 => ?_)
  simp only [Bool.false_eq_true, if_false]
  refine wpAny_bind ?_
  rw [← Array.forIn_toList]
  simp only [List.forIn_cons, List.forIn_nil]
  refine wpAny_bind (wpAny_bind (wpAny_holding ?_))
  show wpAny _ _ (Builtin.SmallTypes.nextOf (.ref i1) >>= _) _ _ ⟨h1, g, d, tk0, os⟩
  subst hn1
  refine wpAny_bind (D1.done ⟨h1, g, d, tk0, os⟩ _ _ (D1.over t1 s1 Z.zf1) fun q e hq he => ?_)
  exact hE q tk0 e (fun c o c1 c2 _ x => hq _ _ c2 (s1.extBut _ _ c1 x)) he

/-- such a zip while a list at L is filled from it -/
def ZS (zz TI TO i1 i2 L : Addr) (S1 S2 : Nat → Heap → Prop) (i : Nat) (h : Heap) : Prop := IsTupOf2 h TI (.ref i1) (.ref i2) ∧ S1 i h ∧ S2 i h ∧
  ((IsZip h zz TI TO .none ∧ ∃ a b, IsTupOf2 h TO a b) ∨ ∃ T f o, IsZipHeld h zz TI TO T f ∧ h.get? T = some o ∧ T ≠ zz ∧ T ≠ i1 ∧ T ≠ i2 ∧ T ≠ L)
theorem zs_item {Q : Option Value → Shared → Prop} (Z : ZipSep2 zz TI TO i1 i2 f1 f2) (D1 : Draws prog w A.in1 i1 f1 n1 P1 S1) (D2 : Draws prog w A.in1 i2 f2 n2 P2 S2)
    (st : ZS zz TI TO i1 i2 L S1 S2 i s.heap) (hL : L < s.heap.objs.size) (l1 : i < n1) (l2 : i < n2)
    (hQ : ∀ x y h' tk, P1 i x → P2 i y → ZS zz TI TO i1 i2 L S1 S2 (i + 1) h' → IsTupOf2 h' s.heap.objs.size x y → h'.objs.size = s.heap.objs.size + 1 →
      (∀ c o, c ≠ zz → c ≠ TO → c ≠ i1 → c ≠ i2 → s.heap.get? c = some o → h'.get? c = some o) → Q (some (.ref s.heap.objs.size)) { s with heap := h', toks := tk }) :
    wpAny (model prog w) A (pyNext (.ref zz)) Q E s := by
  obtain ⟨gI, t1, t2, st⟩ := st
  have o1 : s.heap.objs.size ≠ i1 := let ⟨_, e⟩ := D1.live _ _ t1; Nat.ne_of_gt (Heap.lt_size e)
  have o2 : s.heap.objs.size ≠ i2 := let ⟨_, e⟩ := D2.live _ _ t2; Nat.ne_of_gt (Heap.lt_size e)
  rcases st with ⟨gz, a, b, gO⟩ | ⟨T, f, o, gz, gT, r1, r2, r3, r4⟩
  · refine wpAny_pyNext_zipD2_item Z D1 D2 gz gI gO t1 t2 l1 l2 fun x y h' tk px py b1 b2 u1 u2 new sz kk => ?_
    exact hQ x y h' tk px py ⟨kk _ _ Z.TIz Z.TITO Z.TIi1 Z.TIi2 gI, u1, u2, .inr ⟨_, false, _, b1, new, Nat.ne_of_gt (Heap.lt_size gz), o1, o2, Nat.ne_of_gt hL⟩⟩ new sz kk
  · have ty : s.TypeIs (.ref zz) "zip" := ⟨_, gz, rfl⟩
    unfold pyNext
    exact wpAny_bind (wpAny_attempt (wpAny_callSpecial?_slot (name := Str.ofString "__next__") ty F.slot_zip_next (wpAny_call_entry F.slot_zip_next ty F.entry_zip_next
      (zh_item Z D1 D2 gz gT gI t1 t2 l1 l2 fun x y h' tk px py b1 u1 u2 new sz kk => wpAny_pure
        (hQ x y h' tk px py ⟨kk _ _ Z.TIz Z.TIi1 Z.TIi2 gI, u1, u2, .inr ⟨T, true, o, b1, kk _ _ r1 r2 r3 gT, r1, r2, r3, r4⟩⟩ new sz fun c o c1 _ c3 c4 e => kk c o c1 c3 c4 e)) (F.args_zip_next_1 _))))
theorem zs_end {Q : Option Value → Shared → Prop} (Z : ZipSep2 zz TI TO i1 i2 f1 f2) (D1 : Draws prog w A.in1 i1 f1 n1 P1 S1) (D2 : Draws prog w A.in1 i2 f2 n2 P2 S2)
    (st : ZS zz TI TO i1 i2 L S1 S2 i s.heap) (hn : i = n1) (h12 : n1 ≤ n2)
    (hQ : ∀ h' tk, (∀ c o, c ≠ zz → c ≠ TO → c ≠ i1 → c ≠ i2 → s.heap.get? c = some o → h'.get? c = some o) → Q Option.none { s with heap := h', toks := tk }) : wpAny (model prog w) A (pyNext (.ref zz)) Q E s := by
  obtain ⟨gI, t1, t2, st⟩ := st
  rcases st with ⟨gz, a, b, gO⟩ | ⟨T, f, o, gz, gT, r1, r2, r3, r4⟩
  · exact wpAny_pyNext_zipD2_end Z D1 D2 gz gI gO t1 t2 (by omega) (by omega) (.inl hn) fun h' tk kk => hQ h' tk kk
  · have ty : s.TypeIs (.ref zz) "zip" := ⟨_, gz, rfl⟩
    unfold pyNext
    refine wpAny_bind (wpAny_attempt (wpAny_callSpecial?_slot (name := Str.ofString "__next__") ty F.slot_zip_next (wpAny_call_entry F.slot_zip_next ty F.entry_zip_next
      (zh_end Z D1 D2 gz gT gI t1 t2 hn fun h' tk e kk he => ?_) (F.args_zip_next_1 _))))
    obtain ⟨oe, h1, h2⟩ := he
    refine wpAny_bind (wpAny_isInstance (T := "StopIteration") (b := true) ⟨oe, h1, h2⟩ isSubtype_stop ?_)
    exact wpAny_pure (hQ _ _ fun c o c1 _ c3 c4 e => kk c o c1 c3 c4 e)
theorem ZS.keep {h h' : Heap} (st : ZS zz TI TO i1 i2 L S1 S2 i h) (D1 : Draws prog w A i1 f1 n1 P1 S1) (D2 : Draws prog w A i2 f2 n2 P2 S2) (kk : ∀ b o, b ≠ L → h.get? b = some o → h'.get? b = some o) (n0 : zz ≠ L) (nI : TI ≠ L) (nO : TO ≠ L) (nf1 : L ∉ f1) (nf2 : L ∉ f2) :
    ZS zz TI TO i1 i2 L S1 S2 i h' := by
  obtain ⟨gI, t1, t2, st⟩ := st
  refine ⟨kk _ _ nI gI, D1.frame _ _ _ t1 fun b hb o e => kk b o (fun z => nf1 (z ▸ hb)) e, D2.frame _ _ _ t2 fun b hb o e => kk b o (fun z => nf2 (z ▸ hb)) e, ?_⟩
  rcases st with ⟨gz, a, b, gO⟩ | ⟨T, f, o, gz, gT, r1, r2, r3, r4⟩
  · exact .inl ⟨kk _ _ n0 gz, a, b, kk _ _ nO gO⟩
  · exact .inr ⟨T, f, o, kk _ _ n0 gz, kk _ _ r4 gT, r1, r2, r3, r4⟩

/-- the tuples that came -/
structure ZG (P1 P2 : Nat → Value → Prop) (lo : Addr) (h : Heap) (as : List Addr) : Prop where
  rise : as.Pairwise (· < ·)
  over : ∀ a ∈ as, lo < a
  pairs : ∀ (j : Nat) (a : Addr), as[j]? = some a → ∃ x y, P1 j x ∧ P2 j y ∧ IsTupOf2 h a x y
theorem zg_loop {R : Result → Shared → Prop} {base : Heap} (Z : ZipSep2 zz TI TO i1 i2 f1 f2) (D1 : Draws prog w A.in1.in1 i1 f1 n1 P1 S1) (D2 : Draws prog w A.in1.in1 i2 f2 n2 P2 S2) (h12 : n1 ≤ n2)
    (n0 : zz < L) (nI : TI < L) (nO : TO < L) (m1 : i1 < L) (m2 : i2 < L) (nf1 : L ∉ f1) (nf2 : L ∉ f2) (hn : n1 ≤ sizeLine) (res : Value)
    (hR : ∀ h' tk acc c as, (∀ b o, b ≠ L → b ≠ zz → b ≠ TO → b ≠ i1 → b ≠ i2 → base.get? b = some o → h'.get? b = some o) → h'.get? L = some { cls := .type "list", dict := Option.none, data := .seq acc c, slots := #[] } → as.length = n1 → ZG P1 P2 L h' as →
      acc.toList = as.map Value.ref → R (.ok (.ret res)) { s with heap := h', toks := tk }) :
    ∀ (k i : Nat) (h : Heap) (tk c : Nat) (acc : Array Value) (as : List Addr), n1 - i = k → i ≤ n1 → ZS zz TI TO i1 i2 L S1 S2 i h → (∀ b o, b ≠ L → b ≠ zz → b ≠ TO → b ≠ i1 → b ≠ i2 → base.get? b = some o → h.get? b = some o) →
      h.get? L = some { cls := .type "list", dict := Option.none, data := .seq acc c, slots := #[] } → acc.toList = as.map Value.ref → as.length = i → ZG P1 P2 L h as →
      codeAny (model prog w) A (.builtin "list.extend.loop" ⟨[.ref L, .ref zz, res], []⟩) R { s with heap := h, toks := tk } := by
  intro k
  induction k with
  | zero =>
    intro i h tk c acc as hk hi st keep hL hacc hal hG
    refine codeAny_builtin F.entry_extend_loop ?_
    rw [Around.under_plainId F.plain_extend_loop _]
    show wpAny _ A.in1 (pyNext (.ref zz) >>= _) _ _ _
    refine wpAny_bind (zs_end (s := { s with heap := h, toks := tk }) Z D1 D2 st (by omega) h12 fun h' tk' kk => ?_)
    refine wpAny_pure (hR h' tk' acc c as (fun b o h1 h2 h3 h4 h5 e => kk b o h2 h3 h4 h5 (keep b o h1 h2 h3 h4 h5 e)) (kk L _ (Nat.ne_of_gt n0) (Nat.ne_of_gt nO) (Nat.ne_of_gt m1) (Nat.ne_of_gt m2) hL) (by omega) ⟨hG.rise, hG.over, fun j a hj => ?_⟩ hacc)
    obtain ⟨x, y, px, py, e⟩ := hG.pairs j a hj
    have hb := hG.over a (List.mem_of_getElem? hj)
    exact ⟨x, y, px, py, kk a _ (Nat.ne_of_gt (Nat.lt_trans n0 hb)) (Nat.ne_of_gt (Nat.lt_trans nO hb)) (Nat.ne_of_gt (Nat.lt_trans m1 hb)) (Nat.ne_of_gt (Nat.lt_trans m2 hb)) e⟩
  | succ k ih =>
    intro i h tk c acc as hk hi st keep hL hacc hal hG
    have hlt : i < n1 := by omega
    have size : acc.size = i := by rw [← Array.length_toList, hacc, List.length_map, hal]
    have lL : L < h.objs.size := Heap.lt_size hL
    refine codeAny_builtin F.entry_extend_loop ?_
    rw [Around.under_plainId F.plain_extend_loop _]
    show wpAny _ A.in1 (pyNext (.ref zz) >>= _) _ _ _
    refine wpAny_bind (zs_item (s := { s with heap := h, toks := tk }) Z D1 D2 st lL hlt (by omega) fun x y h' tk' px py st' new sz kk => ?_)
    dsimp only at new sz kk ⊢
    have hL' := kk L _ (Nat.ne_of_gt n0) (Nat.ne_of_gt nO) (Nat.ne_of_gt m1) (Nat.ne_of_gt m2) hL
    have up : ∀ b o, b ≠ L → h'.get? b = some o → (h'.update L (Obj.mapSeq (·.push (Value.ref h.objs.size)))).get? b = some o := fun b o hb e => (Heap.get?_update_other _ _ (Ne.symm hb)).trans e
    show wpAny _ A.in1 (updateSeq L (·.push (Value.ref h.objs.size)) >>= _) _ _ _
    refine wpAny_bind ?_
    refine wpAny_updateSeq hL' rfl (wpAny_pure ⟨plainId_quiet F.plain_extend_loop _, ih (i + 1) _ tk' _ (acc.push (Value.ref h.objs.size)) (as ++ [h.objs.size]) (by omega) hlt (st'.keep D1 D2 up (Nat.ne_of_lt n0) (Nat.ne_of_lt nI) (Nat.ne_of_lt nO) nf1 nf2)
      (fun b o h1 h2 h3 h4 h5 e => up b o h1 (kk b o h2 h3 h4 h5 (keep b o h1 h2 h3 h4 h5 e))) (Heap.get?_update_self _ hL' rfl) (by rw [Array.toList_push, hacc, List.map_append]; rfl) (by rw [List.length_append, hal]; rfl) ⟨?_, ?_, ?_⟩⟩) (by rw [size]; omega) (by show (acc.push (Value.ref h.objs.size)).size ≤ sizeLine + 1; rw [Array.size_push, size]; omega)
    · refine List.pairwise_append.mpr ⟨hG.rise, List.pairwise_singleton _ _, fun a ha b hb => ?_⟩
      obtain ⟨j, hj⟩ := List.mem_iff_getElem?.mp ha
      obtain ⟨_, _, _, _, e⟩ := hG.pairs j a hj
      rw [List.mem_singleton.mp hb]
      exact Heap.lt_size e
    · intro a ha
      rcases List.mem_append.mp ha with ha | ha
      · exact hG.over a ha
      · rw [List.mem_singleton.mp ha]; exact lL
    · intro j b hj
      rcases Nat.lt_trichotomy j as.length with h1 | h1 | h1
      · rw [List.getElem?_append_left h1] at hj
        obtain ⟨x', y', q1, q2, q3⟩ := hG.pairs j b hj
        have hb := hG.over b (List.mem_of_getElem? hj)
        exact ⟨x', y', q1, q2, up b _ (Nat.ne_of_gt hb) (kk b _ (Nat.ne_of_gt (Nat.lt_trans n0 hb)) (Nat.ne_of_gt (Nat.lt_trans nO hb)) (Nat.ne_of_gt (Nat.lt_trans m1 hb)) (Nat.ne_of_gt (Nat.lt_trans m2 hb)) q3)⟩
      · subst h1
        have hb : h.objs.size = b := by simpa using hj
        subst hb
        exact ⟨x, y, by rw [hal]; exact px, by rw [hal]; exact py, up _ _ (Nat.ne_of_gt lL) new⟩
      · rw [List.getElem?_eq_none (by rw [List.length_append, List.length_singleton]; omega)] at hj
        cases hj
theorem zg_call {Q : Value → Shared → Prop} (Z : ZipSep2 zz TI TO i1 i2 f1 f2) (D1 : Draws prog w A.in1.in1.in1 i1 f1 n1 P1 S1) (D2 : Draws prog w A.in1.in1.in1 i2 f2 n2 P2 S2) (h12 : n1 ≤ n2) (hn : n1 ≤ sizeLine)
    (gz : IsZip s.heap zz TI TO .none) (gI : IsTupOf2 s.heap TI (.ref i1) (.ref i2)) {a b : Value} (gO : IsTupOf2 s.heap TO a b) (t1 : S1 0 s.heap) (t2 : S2 0 s.heap) (nf1 : ∀ c ∈ f1, c < s.heap.objs.size) (nf2 : ∀ c ∈ f2, c < s.heap.objs.size)
    (hQ : ∀ h' tk acc c as, (∀ b o, b ≠ zz → b ≠ TO → b ≠ i1 → b ≠ i2 → s.heap.get? b = some o → h'.get? b = some o) → h'.get? s.heap.objs.size = some { cls := .type "list", dict := Option.none, data := .seq acc c, slots := #[] } → as.length = n1 → ZG P1 P2 s.heap.objs.size h' as →
      acc.toList = as.map Value.ref → Q (.ref s.heap.objs.size) { s with heap := h', toks := tk }) :
    wpAny (model prog w) A (call (.type "list") [.ref zz]) Q E s := by
  have q1 : s.heap.objs.size ∉ f1 := fun z => Nat.lt_irrefl _ (nf1 _ z)
  have q2 : s.heap.objs.size ∉ f2 := fun z => Nat.lt_irrefl _ (nf2 _ z)
  have lz := Heap.lt_size gz
  have lI := Heap.lt_size gI
  have lO := Heap.lt_size gO
  have m1 := nf1 _ Z.mem1
  have m2 := nf2 _ Z.mem2
  refine callType_codes (Q₁ := fun obj s₁ => obj = .ref s.heap.objs.size ∧ s₁ = { s with heap := s.heap.push { cls := .type "list", data := .seq #[] } }) F.called_list (F.typeCall_list_1 (.ref zz)) F.entry_list_init
    (code_list_new _ ⟨rfl, rfl⟩) fun obj s₁ h₁ => ?_
  obtain ⟨rfl, rfl⟩ := h₁
  have hS : (s.heap.push { cls := .type "list", data := .seq #[] }).get? s.heap.objs.size = some { cls := .type "list", data := .seq #[] } := Heap.get?_push_size _ rfl
  refine ⟨⟨_, hS, rfl⟩, F.args_list_init_2 _ (.ref zz), ?_⟩
  generalize hL : s.heap.objs.size = L at *
  have st0 : ZS zz TI TO i1 i2 L S1 S2 0 (s.heap.push { cls := .type "list", data := .seq #[] }) := ⟨Heap.get?_push_of_some _ gI, D1.frame _ _ _ t1 fun b _ o e => Heap.get?_push_of_some _ e, D2.frame _ _ _ t2 fun b _ o e => Heap.get?_push_of_some _ e, .inl ⟨Heap.get?_push_of_some _ gz, a, b, Heap.get?_push_of_some _ gO⟩⟩
  have k0 : ∀ b o, s.heap.get? b = some o → (s.heap.push { cls := .type "list", data := .seq #[] }).get? b = some o := fun b o e => Heap.get?_push_of_some _ e
  generalize (s.heap.push { cls := .type "list", data := .seq #[] }) = h0 at hS st0 k0
  show wpAny _ A.in1.in1 (do let old ← Builtin.List.listItems (.ref L); Builtin.List.listUpdate (.ref L) (fun _ => #[]); letGo old.toList.reverse; Builtin.List.listExtendWith (.ref L) (.ref zz) .none) _ _ _
  refine wpAny_bind ?_
  unfold Builtin.List.listItems
  refine wpAny_bind (wpAny_seqItems hS rfl (wpAny_pure ?_))
  show wpAny _ A.in1.in1 (updateSeq L (fun _ => #[]) >>= fun _ => letGo (#[] : Array Value).toList.reverse >>= fun _ => Builtin.List.listExtendWith (.ref L) (.ref zz) .none) _ _ _
  refine wpAny_bind (wpAny_updateSeq hS rfl ?_)
  have g2 := Heap.get?_update_self (Obj.mapSeq (fun _ => (#[] : Array Value))) hS rfl
  have kk2 : ∀ b o, b ≠ L → h0.get? b = some o → (h0.update L (Obj.mapSeq (fun _ => (#[] : Array Value)))).get? b = some o := fun b o hb e => (Heap.get?_update_other _ _ (Ne.symm hb)).trans e
  have st2 := st0.keep D1 D2 kk2 (Nat.ne_of_lt lz) (Nat.ne_of_lt lI) (Nat.ne_of_lt lO) q1 q2
  refine wpAny_bind (wpAny_letGo ?_)
  dsimp only at g2 kk2 st2 ⊢
  generalize (h0.update L (Obj.mapSeq (fun _ => (#[] : Array Value)))) = hh2 at g2 kk2 st2 ⊢
  have gz2 : IsZip hh2 zz TI TO .none := kk2 _ _ (Nat.ne_of_lt lz) (k0 _ _ gz)
  have ty2 : Shared.TypeIs { s with heap := hh2 } (.ref zz) "zip" := ⟨_, gz2, rfl⟩
  unfold Builtin.List.listExtendWith
  refine wpAny_bind (wpAny_typeOf ty2 ?_)
  have c1 : Builtin.List.listSameRef (.ref L) (.ref zz) = false := by simp [Builtin.List.listSameRef, Nat.ne_of_gt lz]
  have c2 : (Value.type "zip" == Value.type "list") = false := by decide
  have c3 : (Value.type "zip" == Value.type "tuple") = false := by decide
  simp only [c1, c2, c3, Bool.or_false, Bool.false_eq_true, if_false]
  refine wpAny_bind (wpAny_pyIter_zip gz2 ?_)
  refine wpAny_bind (wpAny_holding ?_)
  unfold Builtin.List.listLengthHint
  refine wpAny_bind (wpAny_specialOf ty2 zip_nolen ?_)
  show wpAny _ A.in1.in1 (specialOf (Value.ref zz) (Str.ofString "__length_hint__") >>= _) _ _ _
  refine wpAny_bind (wpAny_specialOf ty2 zip_nohint ?_)
  refine wpAny_pure ?_
  show wpAny _ A.in1.in1 (rule "list.extend.makes-room" >>= fun _ => Builtin.List.listTouch (.ref L) >>= fun _ =>
    again (.builtin "list.extend.loop" ⟨[.ref L, .ref zz, .none], []⟩)) _ _ _
  refine wpAny_bind (wpAny_rule ?_)
  refine wpAny_bind ?_
  show wpAny _ A.in1.in1 (updateSeq L (·.push .none) >>= fun _ => updateSeq L (·.pop)) _ _ _
  refine wpAny_bind (wpAny_updateSeq g2 rfl ?_)
  have g3 := Heap.get?_update_self (Obj.mapSeq (·.push Value.none)) g2 rfl
  refine wpAny_updateSeq (hz := by seq_fits) g3 rfl ?_
  have g4 := Heap.get?_update_self (Obj.mapSeq (·.pop)) g3 rfl
  have kk4 : ∀ b o, b ≠ L → hh2.get? b = some o → ((hh2.update L (Obj.mapSeq (·.push Value.none))).update L (Obj.mapSeq (·.pop))).get? b = some o :=
    fun b o hb e => (Heap.get?_update_other _ _ (Ne.symm hb)).trans ((Heap.get?_update_other _ _ (Ne.symm hb)).trans e)
  have lb : ∀ b o, s.heap.get? b = some o → b ≠ L := fun b o e => by rw [← hL]; exact Nat.ne_of_lt (Heap.lt_size e)
  refine wpAny_pure ⟨plainId_quiet F.plain_extend_loop _, ?_⟩
  refine zg_loop (s := { s with heap := _ }) (base := s.heap) Z D1 D2 h12 lz lI lO m1 m2 q1 q2 hn .none (fun h' tk acc c as kk hl hal hG hacc => ⟨rfl, hQ h' tk acc c as (fun b o h2 h3 h4 h5 e => kk b o (lb b o e) h2 h3 h4 h5 e) hl hal hG hacc⟩)
    n1 0 _ _ _ #[] [] (by omega) (Nat.zero_le _) (st2.keep D1 D2 kk4 (Nat.ne_of_lt lz) (Nat.ne_of_lt lI) (Nat.ne_of_lt lO) q1 q2) (fun b o h1 _ _ _ _ e => kk4 b o h1 (kk2 b o h1 (k0 b o e))) g4 rfl rfl ⟨List.Pairwise.nil, (fun _ ha => nomatch ha), (fun j a hj => by simp at hj)⟩
end
section
variable {X : Cx} {e e2 : Expr} {ta : TA} {p p2 cpos pos : Pos}
theorem vals_back : ∀ {xs : List V} {us : List Value} {i : Nat} {u : Value}, Paired RelV xs us → us[i]? = some u → ∃ x, xs[i]? = some x ∧ RelV x u
  | _, _, i, u, .nil, h => by cases h
  | _, _, 0, u, .cons r t, h => by
    have e := Option.some.inj h
    subst e
    exact ⟨_, rfl, r⟩
  | _, _, i + 1, u, .cons r t, h => vals_back (i := i) t (by simpa using h)
theorem sep5 (n l : Nat) (h : l < n) : ZipSep2 (n + 4) (n + 2) (n + 3) n (n + 1) [n] [n + 1, l] := by
  have ne : ∀ a b : Nat, a < b → ¬ (a : Addr) = b := fun a b h z => Nat.ne_of_lt h z
  have en : ∀ a b : Nat, b < a → ¬ (a : Addr) = b := fun a b h z => Nat.ne_of_gt h z
  have no1 : ∀ a b : Nat, (a < b ∨ b < a) → (a : Addr) ∉ [(b : Addr)] := fun a b h z => by
    have e : a = b := List.mem_singleton.mp z
    omega
  have no2 : ∀ a b c : Nat, (a < b ∨ b < a) → (a < c ∨ c < a) → (a : Addr) ∉ [(b : Addr), (c : Addr)] := fun a b c h1 h2 z => by
    rcases List.mem_cons.mp z with e | e
    · have e : a = b := e
      omega
    · have e : a = c := List.mem_singleton.mp e
      omega
  exact ⟨ne _ _ (by omega), ne _ _ (by omega), ne _ _ (by omega), en _ _ (by omega), List.mem_cons_self, no1 _ _ (by omega), no1 _ _ (by omega), en _ _ (by omega), List.mem_cons_self, no2 _ _ _ (by omega) (by omega), no2 _ _ _ (by omega) (by omega), no2 _ _ _ (by omega) (by omega), no1 _ _ (by omega)⟩
/-- the pairs of the signs of x and of ys -/
def zkv (x : Str) (ys : List V) : List (Key × V) := (x.cps.toList.zip ys).map fun q => (Sum.inr ⟨#[q.1]⟩, q.2)
theorem zkv_len {x : Str} {ys : List V} (h : x.length = ys.length) : (zkv x ys).length = x.length := by
  unfold zkv
  rw [List.length_map, List.length_zip]
  show min x.length ys.length = _
  omega
theorem zkv_at {x : Str} {ys : List V} {j c : Nat} {y : V} (h1 : x.cps[j]? = some c) (h2 : ys[j]? = some y) : (zkv x ys)[j]? = some (Sum.inr ⟨#[c]⟩, y) := by
  unfold zkv
  rw [List.getElem?_map, List.zip_eq_zipWith, List.getElem?_zipWith, Array.getElem?_toList, h1, h2]
  rfl
theorem zip_laid {pins : List (Addr × Obj)} {σ : L2.St} {H : Hp} {s : Shared} {h' : Heap} {tk : Nat} {kvs : List (Key × V)} {acc : Array Value} {c : Nat} {L : Addr} {as : List Addr} (I : Inv X pins σ H s) (hL : s.heap.objs.size ≤ L) (hz : kvs.length ≤ sizeLine)
    (kk : ∀ b o, s.heap.get? b = some o → h'.get? b = some o) (eL : h'.get? L = some { cls := .type "list", dict := none, data := .seq acc c, slots := #[] }) (hl : as.length = kvs.length) (rise : as.Pairwise (· < ·)) (over : ∀ a ∈ as, L < a)
    (prs : ∀ (j : Nat) (a : Addr), as[j]? = some a → ∃ q x y, kvs[j]? = some q ∧ RelV (kV q.1) x ∧ RelV q.2 y ∧ IsTupOf2 h' a x y) (hacc : acc.toList = as.map Value.ref) :
    ∃ H' : Hp, (∀ b o, H b = some o → H' b = some o) ∧ H L = none ∧ (∀ t ∈ as, H t = none) ∧ L ∉ as ∧ H' L = some (.lst (as.map V.ref)) ∧ Paired (fun (t : Addr) (q : Key × V) => H' t = some (.tup [kV q.1, q.2])) as kvs ∧ Inv X pins σ H' { s with heap := h', toks := tk } := by
  have nL : L ∉ as := fun z => Nat.lt_irrefl _ (over _ z)
  have nd : as.Nodup := List.Pairwise.imp (fun {a b} (h : a < b) => Nat.ne_of_lt h) rise
  have newT : ∀ t ∈ as, H t = none := fun t ht => I.hok.fresh (Nat.le_trans hL (Nat.le_of_lt (over t ht)))
  have newL : H L = none := I.hok.fresh hL
  have laid := LiI.putT_at as kvs (upd H L (.lst (as.map V.ref))) hl nd
  have off : ∀ b, b ∉ as → b ≠ L → LiI.putT (upd H L (.lst (as.map V.ref))) as kvs b = H b := fun b q1 q2 => by rw [LiI.putT_off as kvs _ q1, upd_ne q2]
  have low : ∀ b o, s.heap.get? b = some o → b ∉ as ∧ b ≠ L := fun b o e => ⟨fun z => absurd (Heap.lt_size e) (Nat.not_lt.mpr (Nat.le_trans hL (Nat.le_of_lt (over b z)))), fun z => absurd (Heap.lt_size e) (Nat.not_lt.mpr (z ▸ hL))⟩
  have same : ∀ b u, H b = some u → (LiI.putT (upd H L (.lst (as.map V.ref))) as kvs) b = some u := fun b u e => by
    rw [off b (fun z => by rw [newT b z] at e; cases e) (fun z => by rw [z, newL] at e; cases e), e]
  have atL : LiI.putT (upd H L (.lst (as.map V.ref))) as kvs L = some (.lst (as.map V.ref)) := by rw [LiI.putT_off as kvs _ nL, upd_same]
  refine ⟨LiI.putT (upd H L (.lst (as.map V.ref))) as kvs, same, newL, newT, nL, atL, laid, ?_⟩
  refine I.call' (ch := []) rfl ⟨fun b o q _ _ _ => kk b o q, fun b o q _ _ _ => ⟨o.slots, kk b o q⟩, fun b o q n _ => ?_, fun b o q _ => ⟨o, kk b o q⟩, fun b xs q => same b _ q, fun b o u q => same b _ q, fun b ps q => ⟨#[], by rw [same b _ q]; simp⟩⟩ (fun b u q => ?_) I.bare fun b z => by simp at z
  · obtain ⟨z1, z2⟩ := low b o q
    rw [off b z1 z2, n]
  · by_cases hb : b ∈ as
    · obtain ⟨j, pk, e1, e2, e3⟩ := LiI.paired_ix laid hb
      rw [e3] at q
      cases q
      obtain ⟨pq, x, y, g1, g2, g3, g4⟩ := prs j b e1
      rw [e2] at g1
      cases g1
      exact ⟨by show 2 ≤ sizeLine; decide, [x, y], .cons g2 (.cons g3 .nil), ⟨_, g4, rfl, _, rfl⟩⟩
    · by_cases hb2 : b = L
      · rw [hb2] at q ⊢
        rw [atL] at q
        cases q
        refine ⟨by rw [List.length_map, hl]; exact hz, acc.toList, c, by rw [hacc]; exact LiI.vals_refs as, ?_⟩
        rw [Array.toArray_toList]
        exact eL
      · rw [off b hb hb2] at q
        exact (I.hok b u q).stay (fun d v _ y => kk d v y) (fun d y => same d _ y) fun d xs y => same d _ y
def rZipL (K : PySem.W.Frag) : List V → Hp → VK → Prop := fun vs H Q => ∃ (x : Str) (l : Addr) (ys : List V), vs = [.str x, .ref l] ∧ SqL K H l ys ∧ x.length = ys.length ∧ x.length ≤ sizeLine ∧
  ∀ (H' : Hp) (q : Addr) (ts : List Addr), Same H H' → H q = none → (∀ t ∈ ts, H t = none) → q ∉ ts → H' q = some (.lst (ts.map V.ref)) → Paired (fun (t : Addr) (u : Key × V) => H' t = some (.tup [kV u.1, u.2])) ts (zkv x ys) → Q (.ref q) H'
def tLstZ (K : PySem.W.Frag) (ta : TA) : TE := fun σ H Q => ta σ H fun vs H1 => rZipL K vs H1 Q
/-- list(zip(text, list)) -/
theorem pe_listZip (hc : X.calm = true) (ha : PA X [e, e2] ta) (hg : Gl X "list") (hm : X.mg "list" = none) (hv : bootBuiltins "list" = some (.type "list")) (hg2 : Gl X "zip") (hm2 : X.mg "zip" = none)
    (hs : starEach [e, e2] X.env = (false, eval e X.env) :: starEach [e2] X.env := by rfl) (hpl : (backTo cpos (starEach [e2] X.env)).any (·.1) = false := by rfl)
    (na : starEach [.Call (.Name "zip" p2) [e, e2] [] cpos] X.env = (false, eval (.Call (.Name "zip" p2) [e, e2] [] cpos) X.env) :: starEach [] X.env := by rfl) :
    PE X (.Call (.Name "list" p) [.Call (.Name "zip" p2) [e, e2] [] cpos] [] pos) (tLstZ X.K ta) := by
  refine ⟨fun pins s σ H Q I h => ?_⟩
  refine Call_ (ld_blt I hg hm hv ?_)
  refine PyProof.Rows.callWith_type1 (PyProof.Rows.args_cons ?_ na) na rfl
  refine Call_ (ld_blt I hg2 hm2 PyProof.Rows.boot_zip (PyProof.Rows.callWith_type1 (thn (ha.run cpos pins s σ H _ I h) fun us s1 ⟨vs, H1, I1, r1, q1⟩ => ?_) hs hpl))
  obtain ⟨x, l, ys, rfl, hq, hxy, hxz, q⟩ := q1
  cases r1 with
  | cons r rr =>
    cases rr with
    | cons r' rr =>
      cases rr
      obtain ⟨t, rfl⟩ := r
      cases r'
      obtain ⟨its, rv, p1, hiz⟩ := I1.list hq
      have ll : l < s1.heap.objs.size := p1.lt
      have hlen : its.toArray.size = x.cps.size := by
        rw [List.size_toArray, ← rv.length]
        exact hxy.symm
      have D0 : (s1.heap.objs.size : Nat) < s1.heap.objs.size + 1 := Nat.lt_succ_self _
      have hh : X.A.in1.in1.in1.handled = none := I1.ok.hd hc
      refine zip_begins2 (begins_text x t) (begins_list l its.toArray) trivial p1.isList fun h' gz gI gO g1 g2 size kk => PyProof.Rows.args_nil ?_
      have Z := sep5 s1.heap.objs.size l ll
      refine zg_call (n1 := x.cps.size) (n2 := its.toArray.size) (P1 := fun i v => ∃ c u, x.cps[i]? = some c ∧ v = .str ⟨#[c]⟩ u) (P2 := fun i v => its.toArray[i]? = some v) (S1 := fun i h => h.IsStrIter s1.heap.objs.size (strIterType x) x t i) (S2 := fun i h => h.IsListIter (s1.heap.objs.size + 1) l i ∧ h.IsList l its.toArray)
        Z (Draws.text hh _ x t) (Draws.list hh _ l (Nat.ne_of_lt (Nat.lt_succ_of_lt ll)) its.toArray) (by omega) hxz gz gI gO ⟨_, g1, rfl, rfl⟩ ⟨⟨_, g2, rfl, rfl⟩, p1.isList.at fun o e => kk l o e⟩ ?_ ?_ ?_
      · intro c hc
        have e : c = s1.heap.objs.size := by simpa using hc
        subst e
        show _ < h'.objs.size
        omega
      · intro c hc
        show (c : Nat) < h'.objs.size
        have z : c = s1.heap.objs.size + 1 ∨ c = l := by simpa using hc
        have ll' : (l : Nat) < s1.heap.objs.size := ll
        rcases z with z | z
        · rw [size, z]
          exact Nat.add_lt_add_left (by decide) _
        · rw [size, z]
          exact Nat.lt_of_lt_of_le ll' (Nat.le_add_right _ _)
      · intro h2 tk acc c as kp eL hal hG hacc
        dsimp only at kp eL hG ⊢
        have lows : ∀ b o, s1.heap.get? b = some o → h2.get? b = some o := fun b o e => by
          have hb : (b : Nat) < s1.heap.objs.size := Heap.lt_size e
          have far : ∀ k : Nat, b ≠ s1.heap.objs.size + k := fun k z => Nat.ne_of_lt (Nat.lt_of_lt_of_le hb (Nat.le_add_right _ k)) z
          exact kp b o (far 4) (far 3) (far 0) (far 1) (kk b o e)
        obtain ⟨H', k1, k2, k3, k4, k5, k6, J⟩ := zip_laid (tk := tk) (kvs := zkv x ys) I1 (L := h'.objs.size) (by rw [size]; exact Nat.le_add_right _ _) (by rw [zkv_len hxy]; exact hxz) lows eL (by rw [zkv_len hxy]; exact hal) hG.rise hG.over (fun j a hj => by
          obtain ⟨u, v, ⟨cc, uu, e1, e2⟩, e3, e4⟩ := hG.pairs j a hj
          subst e2
          have e3' : its[j]? = some v := by simpa using e3
          obtain ⟨y, hy, ry⟩ := vals_back rv e3'
          exact ⟨_, _, _, zkv_at e1 hy, ⟨_, rfl⟩, ry, e4⟩) hacc
        exact ⟨.ref _, H', J, rfl, q H' _ as k1 k2 k3 k4 k5 k6⟩
end
end Rz

namespace Rz
open PySem PySem.Spec PyProof.Rows L2
/-! ### more of the class's own special methods -/
section
variable {X : Cx} {k : Nat} {f C a dx : Addr} {fs : List (Str × V)} {fd : FuncData} {ps : List Str} {sp : Sp} {pins : List (Addr × Obj)} {σ : L2.St} {H : Hp} {s : Shared}
/-- o += x by the own __iadd__ -/
def tIpO (C : Addr) (sp : Sp) : V → V → Hp → VK → Prop := fun x y H Q => ∃ a dx fs, x = .ref a ∧ H a = some (.ins C dx fs) ∧ sp [x, y] H (fun v H' => (∃ b, v = .ref b) ∧ Q v H') E0
theorem ip_own (M : Meth X.K C "__iadd__" f) (hc : PySem.W.selfFirst X.K C = true) (F : FnOk X.prog X.w X.K X.mg X.base (L2.CX X.prog X.w) k f fd ps sp) (hr : Room k X.A) (hb : Binds X.K fd ps []) : PIp X .Add (tIpO C sp) := by
  intro pins s σ H x y v u Q I r1 r2 h
  obtain ⟨a, dx, fs, rfl, ea, hq⟩ := h
  obtain rfl : v = Value.ref a := r1
  obtain ⟨od, J⟩ := inst_at I ea
  obtain ⟨m0, hF⟩ := I.fr
  refine PySem.W.ksp_inplace hF I.ok.mod.kin J hc M.at_ M.fn (wpAny_mono (run_below (vs := [.ref a, y]) F hr rfl hb I (.cons rfl (.cons r2 .nil)) hq) (fun r s' hv => ?_) fun _ _ z => z)
  obtain ⟨z, H', J', rz, ⟨b, rfl⟩, q⟩ := hv
  obtain rfl : r = Value.ref b := rz
  exact ⟨.ref b, H', J', rfl, q⟩
/-- o[i] = v by the own __setitem__ -/
def tSetO (C : Addr) (sp : Sp) : TSet := fun o i v H Q => ∃ a dx fs, o = .ref a ∧ H a = some (.ins C dx fs) ∧ sp [o, i, v] H (fun _ H' => Q H') E0
theorem set_own (M : Meth X.K C "__setitem__" f) (hn : PySem.W.noSeq X.K C = true) (F : FnOk X.prog X.w X.K X.mg X.base (L2.CX X.prog X.w) k f fd ps sp) (hr : Room k X.A) (hb : Binds X.K fd ps []) : PSet X (tSetO C sp) := by
  intro pins s σ H o i v ov iv u Q I r1 r2 r3 h
  obtain ⟨a, dx, fs, rfl, ea, hq⟩ := h
  obtain rfl : ov = Value.ref a := r1
  obtain ⟨od, J⟩ := inst_at I ea
  obtain ⟨m0, hF⟩ := I.fr
  refine PySem.W.ksp_setItem hF I.ok.mod.kin J hn M.at_ M.fn (wpAny_mono (run_below (vs := [.ref a, i, v]) F hr rfl hb I (.cons rfl (.cons r2 (.cons r3 .nil))) hq) (fun r s' hv => ?_) fun _ _ z => z)
  obtain ⟨z, H', J', rz, q⟩ := hv
  exact ⟨H', J', q⟩
/-- len(x) by the own __len__ -/
def rLenO (C : Addr) (sp : Sp) : List V → Hp → VK → Prop := fun xs H Q => ∃ a dx fs, xs = [.ref a] ∧ H a = some (.ins C dx fs) ∧ sp [.ref a] H (fun v H' => ∃ n : Nat, v = .int n ∧ n < 2 ^ 63 ∧ Q v H') E0
theorem call_lenO (M : Meth X.K C "__len__" f) (F : FnOk X.prog X.w X.K X.mg X.base (L2.CX X.prog X.w) k f fd ps sp) (hr : Room (k + 1) X.A) (hb : Binds X.K fd ps []) : CallR X (.builtin "len") (rLenO C sp) := by
  intro pins s σ H xs us Q I r h
  obtain ⟨a, dx, fs, rfl, ea, hq⟩ := h
  obtain ⟨u, rfl, ru⟩ := vals1 r
  obtain rfl : u = Value.ref a := ru
  obtain ⟨od, J⟩ := inst_at I ea
  obtain ⟨m0, hF⟩ := I.fr
  refine PySem.W.len_K hF I.ok.mod.kin J M.at_ M.fn (wpAny_mono (run_below (vs := [.ref a]) F hr.in1 rfl hb I (.cons rfl .nil) hq) (fun r s' hv => ?_) fun _ _ z => z)
  obtain ⟨z, H', J', rz, n, rfl, hn, q⟩ := hv
  obtain ⟨t, rfl⟩ := rz
  exact ⟨⟨by omega, by omega⟩, .int n, H', J'.tok _, ⟨_, rfl⟩, q⟩
/-- abs(x) by the own __abs__ -/
def rAbsO (C : Addr) (sp : Sp) : List V → Hp → VK → Prop := fun xs H Q => ∃ a dx fs, xs = [.ref a] ∧ H a = some (.ins C dx fs) ∧ sp [.ref a] H Q E0
theorem call_absO (M : Meth X.K C "__abs__" f) (F : FnOk X.prog X.w X.K X.mg X.base (L2.CX X.prog X.w) k f fd ps sp) (hr : Room (k + 1) X.A) (hb : Binds X.K fd ps []) : CallR X (.builtin "abs") (rAbsO C sp) := by
  intro pins s σ H xs us Q I r h
  obtain ⟨a, dx, fs, rfl, ea, hq⟩ := h
  obtain ⟨u, rfl, ru⟩ := vals1 r
  obtain rfl : u = Value.ref a := ru
  obtain ⟨od, J⟩ := inst_at I ea
  refine Calls.call_function_entry kind_abs plain_abs entry_abs (args_abs _) ?_
  unfold Builtin.«abs»
  refine wpAny_bind (m := oneArg "abs" _) (wpAny_pure ?_)
  refine wpAny_bind (m := callSpecial? (.ref a) (Str.ofString "__abs__")) (PySem.W.special_fn I.kIn J M.at_ (beq_iff_eq.mp M.fn) (wpAny_mono (run_below (vs := [.ref a]) F hr.in1 rfl hb I (.cons rfl .nil) hq) (fun r s' hv => ?_) fun _ _ z => z))
  exact wpAny_pure ⟨_, rfl, hv⟩
end
end Rz
namespace Rz
open PySem PySem.Spec PyProof.Rows L2
section
variable {X : Cx} {k : Nat} {fi fn C : Addr} {fdI fdN : FuncData} {psI psN : List Str} {spI spN : Sp} {pins : List (Addr × Obj)} {σ : L2.St} {A1 : Around} {l q it : Addr} {ys : List V} {H0 : Hp} {Rs : Result → Shared → Prop}
/-- a list filled from an iterator over another one -/
theorem lo_loop (hh : A1.handled = none) (hs : SqL X.K H0 l ys) (hz : ys.length ≤ sizeLine) (nq : H0 q = none) (ni : H0 it = none) (ne : it ≠ q)
    (hR : ∀ H s, Inv X pins σ H s → (∀ b o, H0 b = some o → H b = some o) → H q = some (.lst ys) → Rs (.ok (.ret .none)) s) :
    ∀ (j i : Nat) (H : Hp) (s : Shared), ys.length - i = j → i ≤ ys.length → Inv X pins σ H s → (∀ b o, H0 b = some o → H b = some o) → H it = some (ItO l it i) → H q = some (.lst (ys.take i)) →
      codeAny (model X.prog X.w) A1 (.builtin "list.extend.loop" ⟨[.ref q, .ref it, .none], []⟩) Rs s := by
  intro j
  induction j with
  | zero =>
    intro i H s hj hi I S ei eq
    have e0 : i = ys.length := by omega
    subst e0
    obtain ⟨its, rv, pl, _⟩ := I.list (Same.seq (H := H0) (H' := H) (fun b o e => S b o e) hs)
    have ty : s.TypeIs (.ref it) "list_iterator" := ⟨_, itO_get I ei, rfl⟩
    have mu : Mut (H it) := by rw [ei]; exact True.intro
    refine codeAny_builtin PySem.F.entry_extend_loop ?_
    rw [Around.under_plainId PySem.F.plain_extend_loop _]
    show wpAny _ A1.in1 (pyNext (.ref it) >>= _) _ _ s
    refine wpAny_bind ?_
    unfold pyNext
    refine wpAny_bind (wpAny_attempt (wpAny_callSpecial?_slot (name := Str.ofString "__next__") ty slot_listiter_next (wpAny_call_entry slot_listiter_next ty entry_listiter_next
      (GNX.next_end (A := A1.in1) hh (itO_get I ei) pl.isList (by rw [List.getElem?_toArray]; exact rv.none_of (List.getElem?_eq_none (Nat.le_refl _))) fun h1 h' e vs e1 sb kk nn he hv => ?_) (args_listiter_next _))))
    refine wpAny_bind (wpAny_isInstance (T := "StopIteration") (b := true) ⟨_, he, rfl⟩ isSubtype_stop ?_)
    have I2 : Inv X pins σ (upd H it (ItE it ys.length)) { s with heap := h1 } := I.write (x := it) (e := it) (t' := s.toks) mu (.inl rfl) (fun b o nb z => (sb.2 b nb).trans z) ⟨_, e1⟩ (itE_ok e1)
    have I3 : Inv X pins σ (upd H it (ItE it ys.length)) { s with heap := h' } := I2.kept (t' := s.toks) kk
    refine wpAny_pure (wpAny_pure (hR _ _ I3 (fun b o e => ?_) ?_))
    · rw [upd_ne (ne_of_none e ni)]
      exact S b o e
    · rw [upd_ne (Ne.symm ne), eq, List.take_length]
  | succ j ih =>
    intro i H s hj hi I S ei eq
    have hlt : i < ys.length := by omega
    obtain ⟨its, rv, pl, _⟩ := I.list (Same.seq (H := H0) (H' := H) (fun b o e => S b o e) hs)
    obtain ⟨u, hu, ru⟩ := rv.get (List.getElem?_eq_getElem hlt)
    have ty : s.TypeIs (.ref it) "list_iterator" := ⟨_, itO_get I ei, rfl⟩
    have mu : Mut (H it) := by rw [ei]; exact True.intro
    refine codeAny_builtin PySem.F.entry_extend_loop ?_
    rw [Around.under_plainId PySem.F.plain_extend_loop _]
    show wpAny _ A1.in1 (pyNext (.ref it) >>= _) _ _ s
    refine wpAny_bind ?_
    unfold pyNext
    refine wpAny_bind (wpAny_attempt (wpAny_callSpecial?_slot (name := Str.ofString "__next__") ty slot_listiter_next (wpAny_call_entry slot_listiter_next ty entry_listiter_next
      (GNX.next_item (itO_get I ei) pl.isList (by rw [List.getElem?_toArray]; exact hu) fun h' e' sb => wpAny_pure ?_) (args_listiter_next _))))
    have I1 : Inv X pins σ (upd H it (ItO l it (i + 1))) { s with heap := h' } := I.write (x := it) (e := it) (t' := s.toks) mu (.inl rfl) (fun b o nb z => (sb.2 b nb).trans z) ⟨_, e'⟩ (itO_ok e')
    have eq1 : upd H it (ItO l it (i + 1)) q = some (.lst (ys.take i)) := by rw [upd_ne (Ne.symm ne), eq]
    obtain ⟨z, its2, n, r2, hl, e⟩ := I1.lstM eq1
    have ltk : (ys.take i).length = i := by rw [List.length_take]; omega
    have tk1 : ys.take (i + 1) = ys.take i ++ [ys[i]] := by rw [List.take_add_one, List.getElem?_eq_getElem hlt]; rfl
    show wpAny _ A1.in1 (updateSeq q (·.push u) >>= _) _ _ _
    refine wpAny_bind (wpAny_updateSeq e rfl (wpAny_pure ⟨plainId_quiet PySem.F.plain_extend_loop _, ?_⟩) (by rw [List.size_toArray]; omega) (by show (its2.toArray.push u).size ≤ sizeLine + 1; rw [Array.size_push, List.size_toArray]; omega))
    refine ih (i + 1) _ _ (by omega) hlt (I1.lset (its' := its2 ++ [u]) (t' := s.toks) eq1 e (by simp) (r2.append (.cons ru .nil)) (by rw [List.length_append, List.length_singleton]; omega)) (fun b o e => ?_) ?_ ?_
    · rw [upd_ne (ne_of_none e nq), upd_ne (ne_of_none e ni)]
      exact S b o e
    · rw [upd_ne ne, upd_same]
    · rw [upd_same, tk1]
def rListO (K : PySem.W.Frag) (C : Addr) (spI spN : Sp) : List V → Hp → VK → Prop := fun xs H Q => ∃ (a dx : Addr) (fs : List (Str × V)) (l : Addr) (ys : List V) (n : Nat), xs = [.ref a] ∧ H a = some (.ins C dx fs) ∧ SqL K H l ys ∧ n < 2 ^ 63 ∧ Builtin.List.listTooLong n = false ∧
  (∀ (H1 : Hp) (R : VK), Same H H1 → (∀ it, H1 it = none → R (.ref it) (upd H1 it (ItO l it 0))) → spI [.ref a] H1 R E0) ∧ (∀ (H1 : Hp) (R : VK), Same H H1 → R (.int (n : Nat)) H1 → spN [.ref a] H1 R E0) ∧
  ∀ (H' : Hp) (q : Addr), Same H H' → H q = none → H' q = some (.lst ys) → Q (.ref q) H'
theorem hint_own {M : Model} {A : Around} {E : Value → Shared → Prop} {s : Shared} {a : Addr} {Q : Bool → Shared → Prop} {K : PySem.W.Frag} {ox : Obj} {od : Option Obj} (hK : K.In s.heap) (MN : Meth K C "__len__" fn) (J : PySem.W.InstAt s.heap a ox C od)
    (h : wpAny M A (call (.builtin "len") [.ref a]) (fun v s' => ∃ (n : Int) (t : Tok), v = .int n t ∧ Builtin.List.listTooLong n.toNat = false ∧ Q (n != 0) s') (fun _ _ => False) s) : wpAny M A (Builtin.List.listLengthHint (.ref a)) Q E s := by
  unfold Builtin.List.listLengthHint
  refine wpAny_bind (wpAny_bind (J.type.here ((PySem.W.looks_findIn hK MN.at_).here ?_)))
  refine PySem.W.KFB.if_not rfl ?_
  refine PySem.W.KFB.if_so rfl ?_
  refine wpAny_bind (wpAny_rule ?_)
  refine wpAny_bind (wpAny_attempt (wpAny_mono h (fun v s' hv => ?_) fun _ _ z => z.elim))
  obtain ⟨n, t, rfl, hl, q⟩ := hv
  refine wpAny_bind (wpAny_of_eq (a := some n) rfl ?_)
  refine PySem.W.KFB.if_not hl ?_
  exact wpAny_pure q
theorem li_next : typeLookup (.type "list_iterator") "__next__" = pure (some (.builtin "list_iterator.__next__")) := slot_listiter_next.lookup
/-- list(x) by the own __iter__, that yields an iterator over a list, and the own __len__ -/
theorem call_listR (hcalm : X.calm = true) (MI : Meth X.K C "__iter__" fi) (FI : FnOk X.prog X.w X.K X.mg X.base (L2.CX X.prog X.w) k fi fdI psI spI) (bI : Binds X.K fdI psI []) (MN : Meth X.K C "__len__" fn) (FN : FnOk X.prog X.w X.K X.mg X.base (L2.CX X.prog X.w) k fn fdN psN spN) (bN : Binds X.K fdN psN [])
    (hr : Room (k + 3) X.A) : CallR X (.type "list") (rListO X.K C spI spN) := by
  intro pins s σ H xs us Q I r h
  obtain ⟨a, dx, fs, l, ys, n, rfl, ha, hq, hn, hlong, hI, hN, fin⟩ := h
  obtain ⟨u, rfl, ru⟩ := vals1 r
  obtain rfl : u = Value.ref a := ru
  obtain ⟨its0, rv0, pl0, hz⟩ := I.list hq
  have hyz : ys.length ≤ sizeLine := by
    have := rv0.length
    omega
  refine callType_codes (Q₁ := fun obj s₁ => obj = .ref s.heap.objs.size ∧ s₁ = { s with heap := s.heap.push { cls := .type "list", data := .seq #[] } }) PySem.F.called_list (PySem.F.typeCall_list_1 (.ref a)) PySem.F.entry_list_init
    (code_list_new _ ⟨rfl, rfl⟩) fun obj s₁ h₁ => ?_
  obtain ⟨rfl, rfl⟩ := h₁
  have hS : (s.heap.push { cls := .type "list", data := .seq #[] }).get? s.heap.objs.size = some { cls := .type "list", data := .seq #[] } := Heap.get?_push_size _ rfl
  refine ⟨⟨_, hS, rfl⟩, PySem.F.args_list_init_2 _ (.ref a), ?_⟩
  have fr : H s.heap.objs.size = none := I.hok.fresh (Nat.le_refl _)
  have I1 : Inv X pins σ (upd H s.heap.objs.size (.lst [])) { s with heap := s.heap.push { cls := .type "list", data := .seq #[] } } := I.lnew (its := []) (t' := s.toks) .nil (Nat.zero_le _)
  generalize s.heap.objs.size = p at fr I1 hS ⊢
  show wpAny _ X.A.in1.in1 (do let old ← Builtin.List.listItems (.ref p); Builtin.List.listUpdate (.ref p) (fun _ => #[]); letGo old.toList.reverse; Builtin.List.listExtendWith (.ref p) (.ref a) .none) _ _ _
  refine wpAny_bind ?_
  unfold Builtin.List.listItems
  refine wpAny_bind (wpAny_seqItems hS rfl (wpAny_pure ?_))
  show wpAny _ _ (updateSeq p (fun _ => #[]) >>= fun _ => letGo (#[] : Array Value).toList.reverse >>= fun _ => Builtin.List.listExtendWith (.ref p) (.ref a) .none) _ _ _
  refine wpAny_bind (wpAny_updateSeq hS rfl ?_)
  have I2 := I1.lset (f := fun _ => #[]) (its := []) (its' := []) (ys := []) (t' := s.toks) upd_same hS rfl .nil (Nat.zero_le _)
  rw [upd_upd] at I2
  refine wpAny_bind (wpAny_letGo ?_)
  have S2 : Same H (upd H p (.lst [])) := Rz.Same.new (Same.refl H) fr
  have ha2 := S2 _ _ ha
  have hne : p ≠ a := fun z => by
    subst z
    rw [fr] at ha
    cases ha
  obtain ⟨od, J⟩ := inst_at I2 ha2
  obtain ⟨m0, hF⟩ := I2.fr
  unfold Builtin.List.listExtendWith
  refine wpAny_bind (J.type.here ?_)
  have c1 : Builtin.List.listSameRef (.ref p) (.ref a) = false := by simp [Builtin.List.listSameRef, hne]
  have c2 : (Value.ref C == Value.type "list") = false := rfl
  have c3 : (Value.ref C == Value.type "tuple") = false := rfl
  simp only [c1, c2, c3, Bool.or_false, Bool.false_eq_true, if_false]
  refine wpAny_bind (PySem.W.owit_iter hF I2.ok.mod.kin J MI.at_ MI.fn (wpAny_mono (run_below (A := X.A.in1.in1) (vs := [.ref a]) FI (hr.in1.in1.mono (Nat.le_succ k)) rfl bI I2 (.cons rfl .nil)
    (hI _ (fun v H' => ∃ it, v = .ref it ∧ upd H p (.lst []) it = none ∧ H' = upd (upd H p (.lst [])) it (ItO l it 0)) S2 fun it hit => ⟨it, rfl, hit, rfl⟩)) (fun v s' hv => ?_) fun _ _ z => z))
  obtain ⟨x, H3, I3, rx, it, rfl, hit, rfl⟩ := hv
  obtain rfl : v = Value.ref it := rx
  have S3 : Same H (upd (upd H p (.lst [])) it (ItO l it 0)) := Rz.Same.new S2 hit
  have fit : H it = none := by
    cases e : H it with
    | none => rfl
    | some o => rw [S2 _ _ e] at hit; cases hit
  have nip : it ≠ p := fun z => by
    subst z
    rw [upd_same] at hit
    cases hit
  have ty : s'.TypeIs (.ref it) "list_iterator" := ⟨_, itO_get I3 upd_same, rfl⟩
  unfold PySem.W.OwitIt
  refine wpAny_specialOf ty li_next ?_
  refine wpAny_bind (wpAny_holding ?_)
  have ha3 := S3 _ _ ha
  obtain ⟨od3, J3⟩ := inst_at I3 ha3
  obtain ⟨m3, hF3⟩ := I3.fr
  refine hint_own I3.kIn MN J3 (PySem.W.len_K hF3 I3.ok.mod.kin J3 MN.at_ MN.fn (wpAny_mono (run_below (A := X.A.in1.in1.in1) (vs := [.ref a]) (E' := fun _ _ => False) FN hr.in1.in1.in1 rfl bN I3 (.cons rfl .nil)
    (hN _ (fun v H' => v = .int (n : Nat) ∧ H' = upd (upd H p (.lst [])) it (ItO l it 0)) S3 ⟨rfl, rfl⟩)) (fun v s4 hv => ?_) fun _ _ z => z.elim))
  obtain ⟨x, H4, I4, rx, rfl, rfl⟩ := hv
  obtain ⟨t4, rfl⟩ := rx
  refine ⟨⟨by omega, by omega⟩, (n : Nat), s4.toks, rfl, hlong, ?_⟩
  have eq4 : upd (upd H p (.lst [])) it (ItO l it 0) p = some (.lst []) := by rw [upd_ne (Ne.symm nip), upd_same]
  have J4 : Inv X pins σ (upd (upd H p (.lst [])) it (ItO l it 0)) { s4 with toks := s4.toks + 1 } := I4.tok _
  have last : ∀ s5, Inv X pins σ (upd (upd H p (.lst [])) it (ItO l it 0)) s5 → codeAny (model X.prog X.w) X.A.in1 (.builtin "list.extend.loop" ⟨[.ref p, .ref it, .none], []⟩) (wants (fun r s₂ => r = .none ∧ EP X pins σ Q (.ref p) s₂) X.xe) s5 := fun s5 I5 =>
    lo_loop (A1 := X.A.in1) (H0 := H) (Rs := wants (fun r s₂ => r = .none ∧ EP X pins σ Q (.ref p) s₂) X.xe) (I5.ok.hd hcalm) hq hyz fr fit nip (fun H6 s6 I6 S6 e6 => ⟨rfl, .ref p, H6, I6, rfl, fin H6 p (fun b o e => S6 b o e) fr e6⟩) ys.length 0 _ _ (by omega) (Nat.zero_le _) I5 (fun b o e => S3 b o e) upd_same eq4
  obtain ⟨z, its, kk, r3, hl3, e3⟩ := J4.lstM eq4
  cases r3
  refine wpAny_ite_split (fun _ => ?_) (fun _ => wpAny_pure ⟨plainId_quiet PySem.F.plain_extend_loop _, last _ J4⟩)
  refine wpAny_bind (wpAny_rule ?_)
  refine wpAny_bind ?_
  show wpAny _ _ (updateSeq p (·.push .none) >>= fun _ => updateSeq p (·.pop)) _ _ _
  refine wpAny_bind (wpAny_updateSeq e3 rfl ?_)
  have K2 := J4.lset (f := (·.push Value.none)) (its' := [Value.none]) (ys := [.non]) (t' := s4.toks + 1) eq4 e3 (by simp) (.cons rfl .nil) (by rw [List.length_singleton, sizeLine_eq]; decide)
  obtain ⟨z4, its4, k4, r4, hl4, e4⟩ := K2.lstM upd_same
  obtain ⟨u4, rfl, ru4⟩ := r4.one
  refine wpAny_updateSeq e4 rfl ?_ (by show 1 ≤ sizeLine; rw [sizeLine_eq]; decide) (by show 0 ≤ sizeLine + 1; exact Nat.zero_le _)
  refine wpAny_pure ⟨plainId_quiet PySem.F.plain_extend_loop _, last _ ?_⟩
  have K3 := K2.lset (f := (·.pop)) (its := [u4]) (its' := []) (ys := []) (t' := s4.toks + 1) upd_same e4 (by rfl) .nil (Nat.zero_le _)
  rw [upd_upd] at K3
  have back : ∀ (G : Hp), G p = some (.lst []) → upd G p (.lst []) = G := fun G g => by
    funext b
    by_cases hb : b = p
    · rw [hb, upd_same, g]
    · rw [upd_ne hb]
  rw [back _ eq4] at K3
  exact K3
end
end Rz

namespace Rz
open PySem PySem.Spec PyProof.Rows L2
/-! ### max(list of ints, default=d) -/
section
variable {prog : Program} {w : World} {A : Around} {R : Result → Shared → Prop} {I S : Addr} {f1 wr : List Addr} {n : Nat} {P : Nat → Value → Prop} {St : Nat → Heap → Prop} {kw : List (Str × Value)}
theorem mx_name : (toString "max" ++ toString ".loop" : String) = "max.loop" := by decide
theorem mxd_loop (Wk : Walks prog w A.in1 I f1 wr n P St) (bt : Nat → Nat → Bool) (cmp : CmpOf prog w A.in1 .Gt P bt) (sep : S ∉ f1) : ∀ (k j : Nat) (s : Shared) (best : Value) (c : Nat), n - (j + 1) = k → j + 1 ≤ n → St (j + 1) s.heap → P (argBest bt j) best →
    s.heap.get? S = some { cls := .type "list", dict := none, data := .seq #[best, best] c, slots := #[] } →
    (∀ v h' tk, P (argBest bt (n - 1)) v → (∀ b o, b ∉ wr → b ≠ S → s.heap.get? b = some o → h'.get? b = some o) → R (.ok (.ret v)) { s with heap := h', toks := tk }) → codeAny (model prog w) A (.builtin "max.loop" ⟨[.ref I, .none, .ref S], kw⟩) R s := by
  have sepW : S ∉ wr := fun h => sep (Wk.sub _ h)
  intro k
  induction k with
  | zero =>
    intro j s best c hk hj st pb gS fin
    have last : j + 1 = n := by omega
    refine codeAny_builtin F.entry_max_loop ?_
    rw [Around.under_plainId F.plain_max_loop _]
    show wpAny _ A.in1 (seqItems? (.ref S) >>= _) _ _ s
    refine wpAny_bind (wpAny_seqItems gS rfl ?_)
    show wpAny _ A.in1 (tryCatch (pyNext (.ref I)) _ >>= _) _ _ s
    refine wpAny_bind (wpAny_tryCatch (Wk.done s _ _ (last ▸ st) fun h' tk kk => ?_))
    have gS' := kk S _ sepW gS
    show wpAny _ A.in1 (updateSeq S (fun _ => #[]) >>= _) _ _ _
    refine wpAny_bind ?_
    refine wpAny_updateSeq gS' rfl (wpAny_bind (wpAny_letGo (wpAny_pure ?_)))
    refine fin best _ tk (by rw [← last]; exact pb) fun b o nb nS e => (Heap.get?_update_other _ _ (Ne.symm nS)).trans (kk b o nb e)
  | succ k ih =>
    intro j s best c hk hj st pb gS fin
    have lt : j + 1 < n := by omega
    refine codeAny_builtin F.entry_max_loop ?_
    rw [Around.under_plainId F.plain_max_loop _]
    show wpAny _ A.in1 (seqItems? (.ref S) >>= _) _ _ s
    refine wpAny_bind (wpAny_seqItems gS rfl ?_)
    show wpAny _ A.in1 (tryCatch (pyNext (.ref I)) _ >>= _) _ _ s
    refine wpAny_bind (wpAny_tryCatch (Wk.item (j + 1) s _ _ lt st fun v h' tk pv st' kk => ?_))
    have gS' := kk S _ sepW gS
    show wpAny _ A.in1 (tryCatch (holding [v, v] (richCompare .Gt v best >>= _)) _ >>= _) _ _ _
    refine wpAny_bind (wpAny_tryCatch (wpAny_holding (wpAny_bind (cmp (j + 1) (argBest bt j) v best _ _ _ pv pb ?_))))
    refine wpAny_bind (wpAny_holding (wpAny_truthy_bool ?_))
    refine wpAny_bind (wpAny_letGo (wpAny_pure ?_))
    cases better : bt (j + 1) (argBest bt j) with
    | true =>
      simp only [if_true]
      refine wpAny_bind ?_
      refine wpAny_updateSeq gS' rfl (wpAny_bind (wpAny_letGo ?_))
      rw [mx_name]
      refine wpAny_pure ⟨plainId_quiet F.plain_max_loop _, ih (j + 1) _ v _ (by omega) lt (Wk.frame _ _ _ st' fun b hb o e => (Heap.get?_update_other _ _ (fun h : S = b => sep (by rw [h]; exact hb))).trans e) (by simp only [argBest, better, if_true]; exact pv) (Heap.get?_update_self _ gS' rfl)
        fun v' h2 tk2 pv2 kk2 => fin v' h2 tk2 pv2 fun b o nb nS e => kk2 b o nb nS ((Heap.get?_update_other _ _ (Ne.symm nS)).trans (kk b o nb e))⟩
    | false =>
      simp only [Bool.false_eq_true, if_false]
      refine wpAny_bind (wpAny_letGo ?_)
      rw [mx_name]
      refine wpAny_pure ⟨plainId_quiet F.plain_max_loop _, ih (j + 1) _ best c (by omega) lt st' (by simp only [argBest, better, Bool.false_eq_true, if_false]; exact pb) gS'
        fun v' h2 tk2 pv2 kk2 => fin v' h2 tk2 pv2 fun b o nb nS e => kk2 b o nb nS (kk b o nb e)⟩
theorem mxd_first (Wk : Walks prog w A.in1 I f1 wr n P St) (bt : Nat → Nat → Bool) (cmp : CmpOf prog w A.in1 .Gt P bt) (sep : S ∉ f1) (pos : 0 < n) {s : Shared} {c : Nat} (st : St 0 s.heap)
    (gS : s.heap.get? S = some { cls := .type "list", dict := none, data := .seq #[] c, slots := #[] })
    (fin : ∀ v h' tk, P (argBest bt (n - 1)) v → (∀ b o, b ∉ wr → b ≠ S → s.heap.get? b = some o → h'.get? b = some o) → R (.ok (.ret v)) { s with heap := h', toks := tk }) : codeAny (model prog w) A (.builtin "max.loop" ⟨[.ref I, .none, .ref S], kw⟩) R s := by
  have sepW : S ∉ wr := fun h => sep (Wk.sub _ h)
  refine codeAny_builtin F.entry_max_loop ?_
  rw [Around.under_plainId F.plain_max_loop _]
  show wpAny _ A.in1 (seqItems? (.ref S) >>= _) _ _ s
  refine wpAny_bind (wpAny_seqItems gS rfl ?_)
  show wpAny _ A.in1 (tryCatch (pyNext (.ref I)) _ >>= _) _ _ s
  refine wpAny_bind (wpAny_tryCatch (Wk.item 0 s _ _ pos st fun v h' tk pv st' kk => ?_))
  have gS' := kk S _ sepW gS
  show wpAny _ A.in1 (updateSeq S (fun _ => #[v, v]) >>= _) _ _ _
  refine wpAny_bind ?_
  refine wpAny_updateSeq gS' rfl ?_
  rw [mx_name]
  refine wpAny_pure ⟨plainId_quiet F.plain_max_loop _, mxd_loop Wk bt cmp sep _ 0 _ v _ rfl pos (Wk.frame _ _ _ st' fun b hb o e => (Heap.get?_update_other _ _ (fun h : S = b => sep (by rw [h]; exact hb))).trans e) pv (Heap.get?_update_self _ gS' rfl)
    fun v' h2 tk2 pv2 kk2 => fin v' h2 tk2 pv2 fun b o nb nS e => kk2 b o nb nS ((Heap.get?_update_other _ _ (Ne.symm nS)).trans (kk b o nb e))⟩
theorem mxd_none (Wk : Walks prog w A.in1 I f1 wr 0 P St) (sep : S ∉ f1) {s : Shared} {c : Nat} {x : Str} {d : Value} (st : St 0 s.heap)
    (gS : s.heap.get? S = some { cls := .type "list", dict := none, data := .seq #[] c, slots := #[] })
    (fin : ∀ h' tk, (∀ b o, b ∉ wr → b ≠ S → s.heap.get? b = some o → h'.get? b = some o) → R (.ok (.ret d)) { s with heap := h', toks := tk }) : codeAny (model prog w) A (.builtin "max.loop" ⟨[.ref I, .none, .ref S], [(x, d)]⟩) R s := by
  refine codeAny_builtin F.entry_max_loop ?_
  rw [Around.under_plainId F.plain_max_loop _]
  show wpAny _ A.in1 (seqItems? (.ref S) >>= _) _ _ s
  refine wpAny_bind (wpAny_seqItems gS rfl ?_)
  show wpAny _ A.in1 (tryCatch (pyNext (.ref I)) _ >>= _) _ _ s
  refine wpAny_bind (wpAny_tryCatch (Wk.done s _ _ st fun h' tk kk => ?_))
  exact wpAny_bind (wpAny_rule (wpAny_pure (fin h' tk fun b o nb _ e => kk b o nb e)))
end
section
variable {prog : Program} {w : World} {A : Around} {E : Value → Shared → Prop} {s : Shared} {l : Addr} {xs : Array (Int × Tok)} {d : Value}
theorem mxd_args (a d : Value) : argsOk "max" ⟨[a], [("default", d)]⟩ := by unfold argsOk; kernel_rfl
theorem mxd_entry {Q : Value → Shared → Prop} (h : wpAny (model prog w) A.in1 (pyIter (.ref l)) (fun it s2 => ∃ I f1 wr n P St bt, it = .ref I ∧ Walks prog w A.in1 I f1 wr n P St ∧ St 0 s2.heap ∧ (∀ b ∈ f1, b < s2.heap.objs.size) ∧ CmpOf prog w A.in1 .Gt P bt ∧
      (n = 0 → ∀ h' tk, (∀ b o, b ∉ wr → s2.heap.get? b = some o → h'.get? b = some o) → Q d { s2 with heap := h', toks := tk }) ∧
      (0 < n → ∀ v h' tk, P (argBest bt (n - 1)) v → (∀ b o, b ∉ wr → s2.heap.get? b = some o → h'.get? b = some o) → Q v { s2 with heap := h', toks := tk })) E s) :
    wpAny (model prog w) A (call (.builtin "max") [.ref l] [("default", d)]) Q E s := by
  refine wpAny_call (codeAny_call_builtin F.plain_max F.entry_max ?_)
  have e : checkBuiltinCall "max" ⟨[.ref l], [("default", d)]⟩ = pure () := by
    have ha := mxd_args (.ref l) d
    simp only [checkBuiltinCall, F.kind_max]
    unfold argsOk at ha
    cases hs : Manifest.signature? "max" with
    | none => rfl
    | some sig => rw [hs] at ha; exact ha
  rw [e]
  refine wpAny_pure ?_
  show wpAny _ A.in1 (Builtin.Builtins.bindParams "max" ["key", "default"] 0 ⟨[], [("default", d)]⟩ >>= _) _ _ s
  refine wpAny_bind (wpAny_of_eq (show Builtin.Builtins.bindParams "max" ["key", "default"] 0 ⟨[], [("default", d)]⟩ = pure [none, some d] from rfl) ?_)
  refine wpAny_bind (wpAny_pure ?_)
  refine wpAny_bind (wpAny_mono h (fun it s2 h2 => ?_) fun _ _ e => e)
  obtain ⟨I, f1, wr, n, P, St, bt, rfl, Wk, st, below, cmp, q0, q1⟩ := h2
  refine wpAny_bind (wpAny_newObj_type ?_)
  have sep : s2.heap.objs.size ∉ f1 := fun hm => Nat.lt_irrefl _ (below _ hm)
  rw [mx_name]
  have st2 := Wk.frame _ _ _ st fun b _ o e => Heap.get?_push_of_some { cls := .type "list", data := .seq #[] } e
  rcases Nat.eq_zero_or_pos n with z | pos
  · subst z
    exact wpAny_pure ⟨plainId_quiet F.plain_max_loop _, mxd_none Wk sep st2 (Heap.get?_push_size _ rfl) fun h' tk kk => q0 rfl h' tk fun b o nb e => kk b o nb (Nat.ne_of_lt (Heap.lt_size e)) (Heap.get?_push_of_some _ e)⟩
  · exact wpAny_pure ⟨plainId_quiet F.plain_max_loop _, mxd_first Wk bt cmp sep pos st2 (Heap.get?_push_size _ rfl) fun v h' tk pv kk => q1 pos v h' tk pv fun b o nb e => kk b o nb (Nat.ne_of_lt (Heap.lt_size e)) (Heap.get?_push_of_some _ e)⟩
end
section
variable {X : Cx}
def rMaxDef (K : PySem.W.Frag) : List V → List V → Hp → VK → Prop := fun xs zs H Q => ∃ (l : Addr) (ns : List Int) (d : Int), xs = [.ref l] ∧ zs = [.int d] ∧ SqL K H l (ns.map V.int) ∧ (ns = [] → Q (.int d) H) ∧ (∀ m, m ∈ ns → (∀ y, y ∈ ns → y ≤ m) → Q (.int m) H)
theorem call_maxDef (hc : X.calm = true) : CallRK X (.builtin "max") ["default"] (rMaxDef X.K) := by
  intro pins s σ H xs zs us ws Q I r1 r2 h
  obtain ⟨l, ns, d, rfl, rfl, hs, q0, q1⟩ := h
  obtain ⟨its, rv, hl, _⟩ := I.list hs
  obtain ⟨u, rfl, ru⟩ := vals1 r2
  obtain ⟨td, rfl⟩ := ru
  rw [Vals.ref1 r1]
  have hi := rv.ints
  obtain ⟨as, e⟩ := hi.allInts.items
  have hn : numsOf (intItems as).toList = ns := by rw [← e]; exact hi.numsOf
  rw [nums_intItems] at hn
  subst hn
  have hl2 := hl.isList
  rw [e] at hl2
  show wpAny _ _ (call (.builtin "max") [.ref l] [("default", .int d td)]) _ _ _
  refine mxd_entry (iter_intList hl2 fun s2 e st below hlI => ?_)
  subst e
  refine ⟨_, _, _, _, _, _, _, rfl, Walks.list (A := X.A.in1) (I.ok.hd hc) _ l hlI (intItems as), st, below, CmpOf.ints_gt (numAt as) (fun _ _ => intItems_at), fun hz h' tk kk => ?_, fun pos v h' tk pv kk => ?_⟩
  · have e0 : as.size = 0 := by simpa [intItems] using hz
    exact ⟨.int d, H, I.kept (old_kept kk), ⟨_, rfl⟩, q0 (by rw [Array.eq_empty_of_size_eq_zero e0]; rfl)⟩
  · have p0 : 0 < as.size := by simpa [intItems] using pos
    have pv' : (intItems as)[argBest (fun i j => decide (numAt as i > numAt as j)) (as.size - 1)]? = some v := by simpa [intItems] using pv
    obtain ⟨t, rfl⟩ := intItems_at pv'
    obtain ⟨h1, h2⟩ := argBest_gt (numAt as) (as.size - 1)
    refine ⟨.int _, H, I.kept (old_kept kk), ⟨t, rfl⟩, q1 _ ?_ fun a ha => ?_⟩
    · rw [numAt_eq]
      exact PySem.getD_mem (by rw [List.length_map, Array.length_toList]; omega)
    · obtain ⟨j, hj, rfl⟩ := mem_getD ha
      rw [List.length_map, Array.length_toList] at hj
      rw [← numAt_eq]
      exact h2 j (by omega)
end
end Rz

namespace Rz
open PySem PySem.Spec PyProof.Rows L2
/-! ### rows: pairs of a sign's code and a height -/
abbrev Pr := Nat × Int
def prV (p : Pr) : List V := [.str ⟨#[p.1]⟩, .int p.2]
/-- the tuples ts are the pairs ps -/
def PAt (H : Hp) (ts : List Addr) (ps : List Pr) : Prop := Paired (fun (t : Addr) (p : Pr) => H t = some (.tup (prV p))) ts ps
/-- a list of such tuples -/
def LAt (H : Hp) (l : Addr) (ps : List Pr) : Prop := ∃ ts : List Addr, H l = some (.lst (ts.map V.ref)) ∧ PAt H ts ps
/-- a row: its list stands at l -/
def RAt (cR : Addr) (H : Hp) (p l : Addr) (ps : List Pr) : Prop := ∃ dx, H p = some (.ins cR dx [("_pairs", .ref l)]) ∧ LAt H l ps
/-- signs with heights -/
def GoodR (ps : List Pr) : Prop := ∀ p ∈ ps, oddC p.1 = false ∧ 0 ≤ p.2 ∧ p.2 ≤ 9
def tx (ps : List Pr) : Str := ⟨(ps.map (·.1)).toArray⟩
def hts (ps : List Pr) : List Int := ps.map (·.2)
theorem tx_len (ps : List Pr) : (tx ps).length = ps.length := by
  show (ps.map (·.1)).toArray.size = _
  rw [List.size_toArray, List.length_map]
theorem tx_list (ps : List Pr) : (tx ps).cps.toList = ps.map (·.1) := rfl
theorem hts_len (ps : List Pr) : (hts ps).length = ps.length := List.length_map ..
/-- tuples stay -/
def Tups (H H' : Hp) : Prop := ∀ b xs, H b = some (.tup xs) → H' b = some (.tup xs)
theorem Tups.of {H H' : Hp} (h : Same H H') : Tups H H' := fun b _ e => h b _ e
theorem Tups.but {D : List Addr} {H H' : Hp} (h : But D H H') (n : ∀ d ∈ D, ∀ xs, H d ≠ some (.tup xs)) : Tups H H' := fun b xs e => h b _ (fun hb => n b hb xs e) e
theorem Tups.trans {H H1 H2 : Hp} (a : Tups H H1) (b : Tups H1 H2) : Tups H H2 := fun c xs e => b c xs (a c xs e)
theorem Tups.upd {H H' : Hp} {p : Addr} {o : HO} (a : Tups H H') (n : ∀ xs, H' p ≠ some (.tup xs)) : Tups H (L2.upd H' p o) := fun c xs e => by
  have e1 := a c xs e
  rw [upd_ne (fun z => n xs (by rw [← z]; exact e1))]
  exact e1
theorem PAt.keep {H H' : Hp} (h : Tups H H') : ∀ {ts : List Addr} {ps : List Pr}, PAt H ts ps → PAt H' ts ps
  | _, _, .nil => .nil
  | _, _, .cons e t => .cons (h _ _ e) (PAt.keep h t)
theorem PAt.length {H : Hp} {ts : List Addr} {ps : List Pr} (h : PAt H ts ps) : ts.length = ps.length := Paired.length h
theorem PAt.append {H : Hp} : ∀ {ts us : List Addr} {ps qs : List Pr}, PAt H ts ps → PAt H us qs → PAt H (ts ++ us) (ps ++ qs)
  | _, _, _, _, .nil, s => s
  | _, _, _, _, .cons e t, s => .cons e (PAt.append t s)
theorem PAt.set {H : Hp} {t : Addr} {p : Pr} (e : H t = some (.tup (prV p))) : ∀ {ts : List Addr} {ps : List Pr} (i : Nat), PAt H ts ps → PAt H (ts.set i t) (ps.set i p)
  | _, _, _, .nil => .nil
  | _, _, 0, .cons _ r => .cons e r
  | _, _, i + 1, .cons a r => .cons a (PAt.set e i r)
theorem PAt.rep {H : Hp} {ts : List Addr} {ps : List Pr} (h : PAt H ts ps) : ∀ n : Nat, PAt H (List.replicate n ts).flatten (List.replicate n ps).flatten
  | 0 => .nil
  | n + 1 => by
    rw [List.replicate_succ, List.replicate_succ, List.flatten_cons, List.flatten_cons]
    exact PAt.append h (PAt.rep h n)
theorem PAt.get {H : Hp} : ∀ {ts : List Addr} {ps : List Pr} {i : Nat} {t : Addr}, PAt H ts ps → ts[i]? = some t → ∃ p, ps[i]? = some p ∧ H t = some (.tup (prV p))
  | _, _, i, t, .nil, h => by cases h
  | _, _, 0, t, .cons e r, h => by
    have z := Option.some.inj h
    subst z
    exact ⟨_, rfl, e⟩
  | _, _, i + 1, t, .cons e r, h => PAt.get (i := i) r (by simpa using h)
theorem refs_get {ts : List Addr} {i : Nat} {y : V} (h : (ts.map V.ref)[i]? = some y) : ∃ t, ts[i]? = some t ∧ y = .ref t := by
  rw [List.getElem?_map] at h
  cases e : ts[i]? with
  | none => rw [e] at h; cases h
  | some u => rw [e] at h; exact ⟨u, rfl, (Option.some.inj h).symm⟩
theorem LAt.keep {H H' : Hp} {l : Addr} {ps : List Pr} (h : Tups H H') (e : H' l = H l) (a : LAt H l ps) : LAt H' l ps := let ⟨ts, h1, h2⟩ := a; ⟨ts, e.trans h1, h2.keep h⟩
theorem LAt.same {H H' : Hp} {l : Addr} {ps : List Pr} (h : Same H H') (a : LAt H l ps) : LAt H' l ps := let ⟨ts, h1, h2⟩ := a; ⟨ts, h _ _ h1, h2.keep (.of h)⟩
theorem LAt.at {H : Hp} {l : Addr} {ps : List Pr} (a : LAt H l ps) : ∃ ts : List Addr, H l = some (.lst (ts.map V.ref)) ∧ ts.length = ps.length := let ⟨ts, h1, h2⟩ := a; ⟨ts, h1, h2.length⟩
theorem RAt.same {H H' : Hp} {cR p l : Addr} {ps : List Pr} (h : Same H H') (a : RAt cR H p l ps) : RAt cR H' p l ps := let ⟨dx, h1, h2⟩ := a; ⟨dx, h _ _ h1, h2.same h⟩
theorem RAt.keep {H H' : Hp} {cR p l : Addr} {ps : List Pr} (h : Tups H H') (e : H' p = H p) (e2 : H' l = H l) (a : RAt cR H p l ps) : RAt cR H' p l ps := let ⟨dx, h1, h2⟩ := a; ⟨dx, e.trans h1, h2.keep h e2⟩
/-- what list(zip(signs, heights)) gives -/
theorem zkv_pairs {H : Hp} {ts : List Addr} {x : Str} {ns : List Int} (h : Paired (fun (t : Addr) (u : Key × V) => H t = some (.tup [kV u.1, u.2])) ts (zkv x (ns.map V.int))) : PAt H ts (x.cps.toList.zip ns) := by
  unfold zkv at h
  generalize x.cps.toList = cs at h ⊢
  induction cs generalizing ts ns with
  | nil => cases h; exact .nil
  | cons c cs ih =>
    cases ns with
    | nil => cases h; exact .nil
    | cons n ns =>
      cases h with
      | cons e r => exact .cons e (ih r)
theorem join_signs (ps : List Pr) : Txt.join "" (ps.map fun p => (⟨#[p.1]⟩ : Str)) = tx ps := by
  have h := join0 (ps.map fun p => (⟨#[p.1]⟩ : Str))
  have e : ((ps.map fun p => (⟨#[p.1]⟩ : Str)).map fun y => y.cps.toList).flatten = ps.map (·.1) := by
    rw [List.map_map]
    clear h
    induction ps with
    | nil => rfl
    | cons p ps ih => rw [List.map_cons, List.flatten_cons, ih]; rfl
  rw [e] at h
  generalize Txt.join "" (ps.map fun p => (⟨#[p.1]⟩ : Str)) = j at h
  cases j with
  | mk a =>
    have h2 : a = (ps.map (·.1)).toArray := by
      rw [← h]
    rw [h2]
    rfl
theorem zip_tx {z : Str} {ns : List Int} (h : ns.length = z.length) : (z.cps.toList.zip ns).map (·.1) = z.cps.toList := by
  rw [List.map_fst_zip]
  rw [h]
  exact Nat.le_refl _
theorem zip_hts {z : Str} {ns : List Int} (h : ns.length = z.length) : (z.cps.toList.zip ns).map (·.2) = ns := by
  rw [List.map_snd_zip]
  rw [h]
  exact Nat.le_refl _
theorem tx_hts_zip (ps : List Pr) : (tx ps).cps.toList.zip (hts ps) = ps := by
  rw [tx_list]
  induction ps with
  | nil => rfl
  | cons p ps ih =>
    show (p.1, p.2) :: _ = _
    exact congrArg (p :: ·) ih
/-- a height that is none -/
def badH (n : Int) : Bool := decide (n < 0) || decide (9 < n)
/-- what becomes of Row(z, ns) -/
inductive RR | sign (i : Nat) | uneven | height (n : Int) | row
def rr (z : Str) (ns : List Int) : RR := match fo z with
  | some i => .sign i
  | none => if ns.length ≠ z.length then .uneven else match ns.find? badH with
    | some n => .height n
    | none => .row
theorem rr_good {ps : List Pr} (h : GoodR ps) : rr (tx ps) (hts ps) = .row := by
  have e1 : fo (tx ps) = none := fo_none fun j c hj => by
    rw [tx_list, List.getElem?_map] at hj
    cases e : ps[j]? with
    | none => rw [e] at hj; cases hj
    | some p =>
      rw [e] at hj
      have e2 := Option.some.inj hj
      rw [← e2]
      exact (h p (List.mem_of_getElem? e)).1
  have e2 : (hts ps).find? badH = none := by
    rw [List.find?_eq_none]
    intro n hn
    obtain ⟨p, hp, rfl⟩ := List.mem_map.mp hn
    have h2 := (h p hp).2
    unfold badH
    simp
    omega
  unfold rr
  rw [e1]
  dsimp only
  rw [if_neg (by rw [tx_len, hts_len]; simp), e2]
end Rz
namespace Rz
open PySem PySem.Spec PyProof.Rows L2
/-- a comprehension over such a list -/
theorem lc_pairs {K : PySem.W.Frag} {l : Addr} {ps : List Pr} {g : TG} {te : TE} {vs : List Nat} {σ : L2.St} {H1 : Hp} {D : Addr} {Qd : Hp → Prop} (f : Pr → V) (hL : LAt H1 l ps) (hz : ps.length ≤ sizeLine) (hD : H1 D = none)
    (body : ∀ (t : Addr) (p : Pr) (H : Hp) (Q : VK), p ∈ ps → Same H1 H → H t = some (.tup (prV p)) → (∀ H4, Same H H4 → Q (f p) H4) → g (.ref t) (wipe σ vs) H fun σ2 H2 => wipe σ2 vs = wipe σ vs ∧ te σ2 H2 Q)
    (hd : ∀ H, Same H1 H → H D = some (.lst (ps.map f)) → Qd H) :
    ∃ W : Nat → Nat → Hp → Prop, (∃ m, W 0 m (upd H1 D (.lst []))) ∧ ∀ i m H, W i m H →
      ((Itl K l).stop i H ∧ Qd H) ∨ ((Itl K l).go i H ∧ ∃ Nx : Hp → Prop, (∀ H', Nx H' → ∃ m', m' < m ∧ W (i + 1) m' H') ∧ ∀ x H', (Itl K l).yld i H x H' → g x (wipe σ vs) H' fun σ2 H2 => wipe σ2 vs = wipe σ vs ∧ tYes σ2 H2 fun b H3 =>
        if b = true then te σ2 H3 fun y H4 => ∃ acc, H4 D = some (.lst acc) ∧ acc.length < sizeLine ∧ Nx (upd H4 D (.lst (acc ++ [y]))) else Nx H3) := by
  obtain ⟨ts, hl, hP⟩ := hL
  refine lc_list (K := K) (a := l) (xs := ts.map V.ref) (fun i H => Same H1 H ∧ H D = some (.lst ((ps.take i).map f))) ⟨Rz.Same.new (Same.refl H1) hD, upd_same⟩ (fun i H _ h => SqL.of (h.1 _ _ hl)) (fun i x H hx h => ?_) (fun H h => hd H h.1 ?_)
  · obtain ⟨S, e⟩ := h
    obtain ⟨t, ht, rfl⟩ := refs_get hx
    obtain ⟨p, hp, h2⟩ := hP.get ht
    have hi : i < ps.length := (List.getElem?_eq_some_iff.mp hp).1
    refine body t p H _ (List.mem_of_getElem? hp) S (S _ _ h2) fun H4 S4 => ⟨_, S4 _ _ e, ?_, Rz.Same.upd (S.trans S4) hD, ?_⟩
    · rw [List.length_map, List.length_take]
      omega
    · rw [upd_same, List.take_add_one, hp, List.map_append]
      rfl
  · have := h.2
    rw [List.length_map, hP.length, List.take_length] at this
    exact this
end Rz
namespace Rz
open PySem PySem.Spec PyProof.Rows L2
theorem LAt.but {D : List Addr} {H H' : Hp} {l : Addr} {ps : List Pr} (a : LAt H l ps) (B : But D H H') (n : l ∉ D) (t : Tups H H') : LAt H' l ps := let ⟨ts, h1, h2⟩ := a; ⟨ts, B.at h1 n, h2.keep t⟩
theorem RAt.but {D : List Addr} {H H' : Hp} {cR p l : Addr} {ps : List Pr} (a : RAt cR H p l ps) (B : But D H H') (n1 : p ∉ D) (n2 : l ∉ D) (t : Tups H H') : RAt cR H' p l ps := let ⟨dx, h1, h2⟩ := a; ⟨dx, B.at h1 n1, h2.but B n2 t⟩
theorem LAt.upd {H : Hp} {l q : Addr} {ps : List Pr} {o : HO} (a : LAt H l ps) (n : l ≠ q) (t : ∀ xs, H q ≠ some (.tup xs)) : LAt (L2.upd H q o) l ps := let ⟨ts, h1, h2⟩ := a; ⟨ts, by rw [upd_ne n]; exact h1, h2.keep (Tups.upd (fun _ _ e => e) t)⟩
theorem RAt.upd {H : Hp} {cR p l q : Addr} {ps : List Pr} {o : HO} (a : RAt cR H p l ps) (n1 : p ≠ q) (n2 : l ≠ q) (t : ∀ xs, H q ≠ some (.tup xs)) : RAt cR (L2.upd H q o) p l ps := let ⟨dx, h1, h2⟩ := a; ⟨dx, by rw [upd_ne n1]; exact h1, h2.upd n2 t⟩
theorem Dr.but {D : List Addr} {H H' : Hp} {d : Addr} (a : Dr H d) (B : But D H H') (n : d ∉ D) : Dr H' d := let ⟨ns, h1, h2⟩ := a; ⟨ns, B.at h1 n, h2⟩
theorem Dr.upd {H : Hp} {d q : Addr} {o : HO} (a : Dr H d) (n : d ≠ q) : Dr (L2.upd H q o) d := let ⟨ns, h1, h2⟩ := a; ⟨ns, by rw [upd_ne n]; exact h1, h2⟩
theorem LAt.isL {H : Hp} {l : Addr} {ps : List Pr} (a : LAt H l ps) : ∃ xs, H l = some (.lst xs) := let ⟨ts, h1, _⟩ := a; ⟨_, h1⟩
theorem RAt.isI {H : Hp} {cR p l : Addr} {ps : List Pr} (a : RAt cR H p l ps) : ∃ dx fs, H p = some (.ins cR dx fs) := let ⟨dx, h1, _⟩ := a; ⟨dx, _, h1⟩
theorem RAt.lst {H : Hp} {cR p l : Addr} {ps : List Pr} (a : RAt cR H p l ps) : LAt H l ps := let ⟨_, _, h⟩ := a; h
theorem Dr.isL {H : Hp} {d : Addr} (a : Dr H d) : ∃ xs, H d = some (.lst xs) := let ⟨ns, h1, _⟩ := a; ⟨_, h1⟩
/-- a list and a row stand apart -/
theorem apartLI {H : Hp} {l p cR m : Addr} {ps : List Pr} (h : ∃ xs, H l = some (.lst xs)) (r : RAt cR H p m ps) : l ≠ p := by
  obtain ⟨xs, e⟩ := h
  obtain ⟨dx, fs, e2⟩ := r.isI
  exact ne_of e e2 fun z => nomatch z
theorem apartLT {H : Hp} {l t : Addr} {ys : List V} (h : ∃ xs, H l = some (.lst xs)) (e2 : H t = some (.tup ys)) : l ≠ t := by
  obtain ⟨xs, e⟩ := h
  exact ne_of e e2 fun z => nomatch z
theorem apartNew {H : Hp} {x y : Addr} (h : ∃ o, H x = some o) (n : H y = none) : x ≠ y := let ⟨_, e⟩ := h; ne_of_none e n
theorem LAt.some {H : Hp} {l : Addr} {ps : List Pr} (a : LAt H l ps) : ∃ o, H l = Option.some o := let ⟨ts, h1, _⟩ := a; ⟨_, h1⟩
theorem RAt.some {H : Hp} {cR p l : Addr} {ps : List Pr} (a : RAt cR H p l ps) : ∃ o, H p = Option.some o := let ⟨dx, h1, _⟩ := a; ⟨_, h1⟩
theorem Dr.some {H : Hp} {d : Addr} (a : Dr H d) : ∃ o, H d = Option.some o := let ⟨ns, h1, _⟩ := a; ⟨_, h1⟩
theorem not_tupL {H : Hp} {l : Addr} (h : ∃ xs, H l = some (.lst xs)) : ∀ xs, H l ≠ some (.tup xs) := fun ys e => by
  obtain ⟨xs, e2⟩ := h
  rw [e2] at e
  cases e
theorem not_tupI {H : Hp} {cR p l : Addr} {ps : List Pr} (r : RAt cR H p l ps) : ∀ xs, H p ≠ some (.tup xs) := fun ys e => by
  obtain ⟨dx, fs, e2⟩ := r.isI
  rw [e2] at e
  cases e
theorem not_tupN {H : Hp} {p : Addr} (h : H p = none) : ∀ xs, H p ≠ some (.tup xs) := fun ys e => by
  rw [h] at e
  cases e
theorem tups1 {H H' : Hp} {x : Addr} (B : But [x] H H') (n : ∀ xs, H x ≠ some (.tup xs)) : Tups H H' := Tups.but B fun d hd xs => by
  have e : d = x := by simpa using hd
  rw [e]
  exact n xs
theorem nin1 {x y : Addr} (n : x ≠ y) : x ∉ [y] := by simpa using n
end Rz

namespace Rz
open PySem L2
/-! ### the text by places -/
def top (i : Nat) : Stmt := PySem.Challenge.pw_risensigns_k08_rule_refused.main.body.getD i (.Pass ⟨0, 0, 0, 0⟩)
abbrev prg : Program := PySem.Challenge.pw_risensigns_k08_rule_refused
abbrev s_check_text : Stmt := top 15
abbrev s_Rule_init : Stmt := inClass (top 22) 0
abbrev s_Rule_str : Stmt := inClass (top 22) 1
abbrev s__law_pool : Stmt := top 26
abbrev s__law_pick : Stmt := top 27
abbrev s__law_word_of : Stmt := top 28
abbrev s__law_is_int : Stmt := top 29
abbrev s__law_odd_sign : Stmt := top 30
abbrev s__law_first_odd : Stmt := top 31
abbrev s__law_due_of : Stmt := top 32
abbrev s__law_same : Stmt := top 33
abbrev s__law_try_make : Stmt := top 34
abbrev s__law_made_short : Stmt := top 35
abbrev s__law_spoilt : Stmt := top 36
abbrev s_law : Stmt := top 37
abbrev s_BadSign_init : Stmt := inClass (top 3) 0
abbrev N_check_text : List Str := ["text", "at", "sign"]
abbrev P_check_text : List Str := ["text"]
abbrev N_Rule_init : List Str := ["self", "left", "right"]
abbrev P_Rule_init : List Str := ["self", "left", "right"]
abbrev N_Rule_str : List Str := ["self"]
abbrev P_Rule_str : List Str := ["self"]
abbrev N__law_pool : List Str := ["_law_script", "_law_draws", "_law_seed", "_law_cell", "_law_rest", "_law_k", "_law_value"]
abbrev P__law_pool : List Str := ["_law_script"]
abbrev N__law_pick : List Str := ["_law_draws", "_law_many"]
abbrev P__law_pick : List Str := ["_law_draws", "_law_many"]
abbrev N__law_word_of : List Str := ["_law_draws", "_law_signs", "_law_least", "_law_greatest", "_law_size", "_law_k"]
abbrev P__law_word_of : List Str := ["_law_draws", "_law_signs", "_law_least", "_law_greatest"]
abbrev N__law_is_int : List Str := ["_law_value"]
abbrev P__law_is_int : List Str := ["_law_value"]
abbrev N__law_odd_sign : List Str := ["_law_draws", "_law_odd"]
abbrev P__law_odd_sign : List Str := ["_law_draws"]
abbrev N__law_first_odd : List Str := ["_law_text", "_law_at"]
abbrev P__law_first_odd : List Str := ["_law_text"]
abbrev N__law_due_of : List Str := ["_law_left", "_law_right"]
abbrev P__law_due_of : List Str := ["_law_left", "_law_right"]
abbrev N__law_same : List Str := ["_law_told", "_law_left", "_law_right", "_law_due", "_law_rule"]
abbrev P__law_same : List Str := ["_law_told", "_law_left", "_law_right"]
abbrev N__law_try_make : List Str := ["_law_left", "_law_right", "_law_rule", "e"]
abbrev P__law_try_make : List Str := ["_law_left", "_law_right"]
abbrev N__law_made_short : List Str := ["_law_left", "_law_rule", "e"]
abbrev P__law_made_short : List Str := ["_law_left"]
abbrev N__law_spoilt : List Str := ["_law_draws", "_law_text", "_law_at"]
abbrev P__law_spoilt : List Str := ["_law_draws", "_law_text"]
abbrev N_law : List Str := ["_law_script", "_law_draws", "_law_letters", "_law_left", "_law_right", "_law_kind"]
abbrev P_law : List Str := ["_law_script"]
/-! ### what stands behind the top -/
structure Txt (K : PySem.W.Frag) (mg : Str → Option Value) : Type where
  n_abs : mg "abs" = none
  n_bool : mg "bool" = none
  n_enumerate : mg "enumerate" = none
  n_int : mg "int" = none
  n_isinstance : mg "isinstance" = none
  n_len : mg "len" = none
  n_range : mg "range" = none
  n_str : mg "str" = none
  k_SIGNS : ∃ t, mg "SIGNS" = some (.str "abcdefghijklmnopqrstuvwxyz" t)
  k_MOST_SIGNS : ∃ t, mg "MOST_SIGNS" = some (.int 4 t)
  c_BadSign : Addr
  m_BadSign : mg "BadSign" = some (.ref c_BadSign)
  o_BadSign : OexC K c_BadSign
  x_BadSign : ExF K c_BadSign "at"
  f_BadSign_init : Addr
  fd_BadSign_init : FuncData
  i_BadSign : PySem.W.findIn K (.ref c_BadSign) "__init__" = some (some (.ref f_BadSign_init))
  t_BadSign : PySem.W.typeIn K (.ref f_BadSign_init) = some (.type "function")
  F_BadSign_init : ExInit prg K mg c_BadSign f_BadSign_init fd_BadSign_init "at" s_BadSign_init
  b_BadSign_init : Binds K fd_BadSign_init ["self", "at"] []
  em_BadSign_BadSign : PySem.W.exmOne K (.ref c_BadSign) (.ref c_BadSign) = some true
  -- em_BadSign_BadRule below
  c_BadRule : Addr
  m_BadRule : mg "BadRule" = some (.ref c_BadRule)
  o_BadRule : PySem.W.excIn K c_BadRule [.type "ValueError", .type "Exception", .type "BaseException", .type "object"] "ValueError.__new__" = true
  kp_BadRule : PySem.W.keepIn K (.ref c_BadRule) = true
  r_BadRule : PySem.W.subIn K (.ref c_BadRule) (.type "BaseException") = some true
  t_BadRule : PySem.W.typeIn K (.ref c_BadRule) = some (.type "type")
  em_BadRule_BadSign : PySem.W.exmOne K (.ref c_BadRule) (.ref c_BadSign) = some false
  em_BadRule_BadRule : PySem.W.exmOne K (.ref c_BadRule) (.ref c_BadRule) = some true
  em_BadSign_BadRule : PySem.W.exmOne K (.ref c_BadSign) (.ref c_BadRule) = some false
  c_Rule : Addr
  m_Rule : mg "Rule" = some (.ref c_Rule)
  cl_Rule : Cls K c_Rule
  mk_Rule : PySem.W.makesIn K c_Rule = true
  kp_Rule : PySem.W.keepIn K (.ref c_Rule) = true
  is_Rule : C8.InsC K c_Rule
  sf_Rule : PySem.W.selfFirst K c_Rule = true
  na_Rule_left : NoAttr K c_Rule "left"
  na_Rule_right : NoAttr K c_Rule "right"
  f_check_text : Addr
  fd_check_text : FuncData
  F_check_text : Fun K "check_text" "check_text" s_check_text f_check_text fd_check_text
  b_check_text : Binds K fd_check_text P_check_text []
  m_check_text : mg "check_text" = some (.ref f_check_text)
  f_Rule_init : Addr
  fd_Rule_init : FuncData
  D_Rule_init : FunD K "__init__" "Rule.__init__" (defArgs s_Rule_init) (defBody s_Rule_init) (defScope s_Rule_init) [.str ""] [] f_Rule_init fd_Rule_init
  kp_Rule_init : PySem.W.keepIn K (.ref f_Rule_init) = true
  M_Rule_init : Meth K c_Rule "__init__" f_Rule_init
  f_Rule_str : Addr
  fd_Rule_str : FuncData
  F_Rule_str : Fun K "__str__" "Rule.__str__" s_Rule_str f_Rule_str fd_Rule_str
  b_Rule_str : Binds K fd_Rule_str P_Rule_str []
  M_Rule_str : Meth K c_Rule "__str__" f_Rule_str
  f__law_pool : Addr
  fd__law_pool : FuncData
  F__law_pool : Fun K "_law_pool" "_law_pool" s__law_pool f__law_pool fd__law_pool
  b__law_pool : Binds K fd__law_pool P__law_pool []
  m__law_pool : mg "_law_pool" = some (.ref f__law_pool)
  f__law_pick : Addr
  fd__law_pick : FuncData
  F__law_pick : Fun K "_law_pick" "_law_pick" s__law_pick f__law_pick fd__law_pick
  b__law_pick : Binds K fd__law_pick P__law_pick []
  m__law_pick : mg "_law_pick" = some (.ref f__law_pick)
  f__law_word_of : Addr
  fd__law_word_of : FuncData
  F__law_word_of : Fun K "_law_word_of" "_law_word_of" s__law_word_of f__law_word_of fd__law_word_of
  b__law_word_of : Binds K fd__law_word_of P__law_word_of []
  m__law_word_of : mg "_law_word_of" = some (.ref f__law_word_of)
  f__law_is_int : Addr
  fd__law_is_int : FuncData
  F__law_is_int : Fun K "_law_is_int" "_law_is_int" s__law_is_int f__law_is_int fd__law_is_int
  b__law_is_int : Binds K fd__law_is_int P__law_is_int []
  m__law_is_int : mg "_law_is_int" = some (.ref f__law_is_int)
  f__law_odd_sign : Addr
  fd__law_odd_sign : FuncData
  F__law_odd_sign : Fun K "_law_odd_sign" "_law_odd_sign" s__law_odd_sign f__law_odd_sign fd__law_odd_sign
  b__law_odd_sign : Binds K fd__law_odd_sign P__law_odd_sign []
  m__law_odd_sign : mg "_law_odd_sign" = some (.ref f__law_odd_sign)
  f__law_first_odd : Addr
  fd__law_first_odd : FuncData
  F__law_first_odd : Fun K "_law_first_odd" "_law_first_odd" s__law_first_odd f__law_first_odd fd__law_first_odd
  b__law_first_odd : Binds K fd__law_first_odd P__law_first_odd []
  m__law_first_odd : mg "_law_first_odd" = some (.ref f__law_first_odd)
  f__law_due_of : Addr
  fd__law_due_of : FuncData
  F__law_due_of : Fun K "_law_due_of" "_law_due_of" s__law_due_of f__law_due_of fd__law_due_of
  b__law_due_of : Binds K fd__law_due_of P__law_due_of []
  m__law_due_of : mg "_law_due_of" = some (.ref f__law_due_of)
  f__law_same : Addr
  fd__law_same : FuncData
  F__law_same : Fun K "_law_same" "_law_same" s__law_same f__law_same fd__law_same
  b__law_same : Binds K fd__law_same P__law_same []
  m__law_same : mg "_law_same" = some (.ref f__law_same)
  f__law_try_make : Addr
  fd__law_try_make : FuncData
  F__law_try_make : Fun K "_law_try_make" "_law_try_make" s__law_try_make f__law_try_make fd__law_try_make
  b__law_try_make : Binds K fd__law_try_make P__law_try_make []
  m__law_try_make : mg "_law_try_make" = some (.ref f__law_try_make)
  f__law_made_short : Addr
  fd__law_made_short : FuncData
  F__law_made_short : Fun K "_law_made_short" "_law_made_short" s__law_made_short f__law_made_short fd__law_made_short
  b__law_made_short : Binds K fd__law_made_short P__law_made_short []
  m__law_made_short : mg "_law_made_short" = some (.ref f__law_made_short)
  f__law_spoilt : Addr
  fd__law_spoilt : FuncData
  F__law_spoilt : Fun K "_law_spoilt" "_law_spoilt" s__law_spoilt f__law_spoilt fd__law_spoilt
  b__law_spoilt : Binds K fd__law_spoilt P__law_spoilt []
  m__law_spoilt : mg "_law_spoilt" = some (.ref f__law_spoilt)
  f_law : Addr
  fd_law : FuncData
  F_law : Fun K "law" "law" s_law f_law fd_law
  b_law : Binds K fd_law P_law []
  m_law : mg "law" = some (.ref f_law)
theorem bd_Rule_init_2 {K : PySem.W.Frag} {mg : Str → Option Value} (T : Txt K mg) : ∃ ds, Vals (([.str ""] : List V).drop 0) ds ∧ Binds K T.fd_Rule_init P_Rule_init ds :=
  T.D_Rule_init.binds1 (ps := P_Rule_init) 2 0 (by simp) rfl fun _ _ _ _ _ _ _ us its hu hi => match us, its, hu, hi with | [_, _], [_], _, _ => ⟨_, rfl, rfl⟩
theorem bd_Rule_init_3 {K : PySem.W.Frag} {mg : Str → Option Value} (T : Txt K mg) : ∃ ds, Vals (([.str ""] : List V).drop 1) ds ∧ Binds K T.fd_Rule_init P_Rule_init ds :=
  T.D_Rule_init.binds1 (ps := P_Rule_init) 3 1 (by simp) rfl fun _ _ _ _ _ _ _ us its hu hi => match us, its, hu, hi with | [_, _, _], [_], _, _ => ⟨_, rfl, rfl⟩
theorem ok_BadSign_init {w : World} {K : PySem.W.Frag} {mg : Str → Option Value} {base : Heap} (T : Txt K mg) : FnOk prg w K mg base (L2.CX prg w) 1 T.f_BadSign_init T.fd_BadSign_init ["self", "at"] (spExI T.c_BadSign "at") :=
  exinit_ok T.o_BadSign T.F_BadSign_init rfl rfl rfl rfl rfl rfl rfl rfl rfl rfl (by decide +kernel) (by decide +kernel) (by decide +kernel) (by decide) (by decide) (msg_ok2 rfl (by decide) (by decide) (by decide +kernel)) (fun _ _ _ _ => rfl) (fun _ _ _ _ => rfl)

end Rz
namespace Rz
open PySem PySem.Spec PyProof.Rows L2
/-- nothing for a text; else BadSign with the first place -/
def sp_check_text (cB : Addr) : Sp := fun vs H Q E => ∃ z : Str, vs = [.str z] ∧ z.length ≤ 1000000 ∧ (fo z = none → ∀ H', Same H H' → Q .non H') ∧
  (∀ i, fo z = some i → ∀ H' d, Same H H' → H d = none → H' d = some (.xd [("at", .int (i : Nat))]) → E (.ref cB) (some d) H')
section
variable {w : World} {K : PySem.W.Frag} {mg : Str → Option Value} {base : Heap}
theorem sc_check_text : FnScope N_check_text P_check_text (defScope s_check_text) := ⟨rfl, rfl, rfl, by decide +kernel, rfl, by decide +kernel, by decide +kernel⟩
theorem ok_check_text (T : Txt K mg) : FnOk prg w K mg base (L2.CX prg w) 3 T.f_check_text T.fd_check_text P_check_text (sp_check_text T.c_BadSign) := by
  refine T.F_check_text.okX sc_check_text (fun vs H Q E h => ?_) (fun cdv A outer s H vs Q E hr h => ?_)
  · obtain ⟨z, rfl, _⟩ := h
    rfl
  obtain ⟨z, rfl, hz, kg, kb⟩ := h
  have nd := sc_check_text.nd
  obtain ⟨tS, k_SIGNS⟩ := T.k_SIGNS
  have tk : Takes (cxOf (L2.CX prg w) prg w K mg base N_check_text "check_text" (defScope s_check_text) T.f_check_text cdv A outer s H E) (fun cls d _ H' => E cls d H') := takes_of rfl rfl rfl rfl
  refine ⟨_, (pss_one (ps_for (passes_of rfl) rfl (pi_enumS (by rfl) T.n_enumerate (pa_cons (pv 0) pa_nil)) (pg_tup rfl (pgs_cons (pg_name (i := 1) nd rfl (Or.inl rfl)) (pgs_cons (pg_name (i := 2) nd rfl (Or.inl rfl)) pgs_nil)))
      (pss_one (ps_if (pt_cmpR op_notIn_sign (pv 2) (pe_glob (v := .str abc) (by rfl) k_SIGNS ⟨_, rfl⟩) rfl) (pss_one (ps_raise rfl tk (pmk_oex T.o_BadSign T.i_BadSign T.t_BadSign (ok_BadSign_init T) (hr.mono (by decide)) T.b_BadSign_init .nil passN (by rfl) T.m_BadSign (pa_cons (pv 1) pa_nil)))) pss_nil)))), ?_⟩
  refine ⟨_, rfl, z, rfl, for_it walk_enumS (fun i σ H' => ∃ v1 v2 : Option V, σ = [some (.str z), v1, v2] ∧ Same H H' ∧ ∀ (j c : Nat), j < i → z.cps.toList[j]? = some c → oddC c = false)
    ⟨_, _, rfl, Same.refl H, fun j c hj => absurd hj (Nat.not_lt_zero j)⟩ (fun _ _ _ _ _ => True.intro) ?_ ?_⟩
  · rintro i x σ H1 H2 hi ⟨v1, v2, rfl, R, hb⟩ ⟨Tp, c, rfl, hT, rfl, hc⟩
    have R2 : Same H (upd H1 Tp (.tup [.int (i : Nat), .str ⟨#[c]⟩])) := Rz.Same.new R hT
    refine ⟨Tp, _, rfl, SqT.of upd_same, rfl, _, _, rfl, _, _, rfl, rfl, ?_⟩
    refine ⟨_, rfl, c, abc, rfl, rfl, _, rfl, ?_⟩
    refine ite2 (fun ho => ?_) (fun ho => ?_)
    · have hfo := fo_some hc ho hb
      have hl := fo_lt hfo
      exact ⟨_, rfl, by show 1 ≤ 1000; decide, raise_fld (log_nat (by omega)) fun H2 d S2 hd e => kb i hfo H2 d (R2.trans S2) (R2.free hd) e⟩
    · refine ⟨_, _, rfl, R2, fun j c2 hj h2 => ?_⟩
      by_cases e : j < i
      · exact hb j c2 e h2
      · have e3 : j = i := by omega
        subst e3
        rw [hc] at h2
        cases h2
        simpa [oddC] using ho
  · rintro σ H1 ⟨v1, v2, rfl, R, hb⟩
    exact kg (fo_none fun j c hj => hb j c (by
      have := (List.getElem?_eq_some_iff.mp hj).1
      simpa using this) hj) H1 R
end
end Rz

namespace Rz
open PySem PySem.Spec PyProof.Rows L2
/-- what becomes of Rule(l, r) -/
inductive RD | sign (i : Nat) | bad | good
def rd (l r : Str) : RD := match fo l with
  | some i => .sign i
  | none => match fo r with
    | some i => .sign i
    | none => if l.length < 1 ∨ l.length > 4 ∨ r.length > 4 then .bad else .good
def ruleF (l r : Str) : List (Str × V) := putF "right" (.str r) (putF "left" (.str l) [])
def sp_Rule_init (cB cR cC : Addr) : Sp := fun vs H Q E => ∃ (p dx : Addr) (l r : Str), vs = [.ref p, .str l, .str r] ∧ l.length ≤ 1000000 ∧ r.length ≤ 1000000 ∧ H p = some (.ins cC dx []) ∧
  (match rd l r with
    | .sign i => ∀ H' d, But [p] H H' → H d = none → H' d = some (.xd [("at", .int (i : Nat))]) → E (.ref cB) (some d) H'
    | .bad => ∀ H', But [p] H H' → E (.ref cR) none H'
    | .good => ∀ H', But [p] H H' → H' p = some (.ins cC dx (ruleF l r)) → Q .non H')
section
variable {w : World} {K : PySem.W.Frag} {mg : Str → Option Value} {base : Heap}
theorem sc_Rule_init : FnScope N_Rule_init P_Rule_init (defScope s_Rule_init) := ⟨rfl, rfl, rfl, by decide +kernel, rfl, by decide +kernel, by decide +kernel⟩
theorem ok_Rule_init (T : Txt K mg) : FnOk prg w K mg base (L2.CX prg w) 4 T.f_Rule_init T.fd_Rule_init P_Rule_init (sp_Rule_init T.c_BadSign T.c_BadRule T.c_Rule) := by
  refine T.D_Rule_init.ok sc_Rule_init (fun vs H Q E h => ?_) (fun cdv A outer s H vs Q E hr h => ?_)
  · obtain ⟨p, dx, l, r, rfl, _⟩ := h
    rfl
  obtain ⟨p, dx, l, r, rfl, hl, hr4, hp, k⟩ := h
  have nd := sc_Rule_init.nd
  obtain ⟨tM, k_MOST_SIGNS⟩ := T.k_MOST_SIGNS
  have tk : Takes (cxOf (L2.CX prg w) prg w K mg base N_Rule_init "Rule.__init__" (defScope s_Rule_init) T.f_Rule_init cdv A outer s H E) (fun cls d _ H' => E cls d H') := takes_of rfl rfl rfl rfl
  refine ⟨_, (pss_cons (ps_expr (pe_fn (ok_check_text T) (hr.mono (by decide)) (by rfl) T.m_check_text T.F_check_text.kp T.b_check_text .nil (passAt tk) (pa_cons (pv 1) pa_nil)))
    (pss_cons (ps_expr (pe_fn (ok_check_text T) (hr.mono (by decide)) (by rfl) T.m_check_text T.F_check_text.kp T.b_check_text .nil (passAt tk) (pa_cons (pv 2) pa_nil)))
    (pss_cons (ps_if (PW.pt (pw_or (pt_not (pt_truth (pv 1) (by intro _; rfl))) (pw_or (pt_cmpR op_gt (pe_callB call_len_str (by rfl) T.n_len PySem.boot_len (pa_cons (pv 1) pa_nil)) (pe_glob (v := .int 4) (by rfl) k_MOST_SIGNS ⟨_, rfl⟩) (nomark _)) (pw_or1 (pt_cmpR op_gt (pe_callB call_len_str (by rfl) T.n_len PySem.boot_len (pa_cons (pv 2) pa_nil)) (pe_glob (v := .int 4) (by rfl) k_MOST_SIGNS ⟨_, rfl⟩) (nomark _)))))) (pss_one (ps_raise rfl tk (pmk_own PySem.F.excBase_ValueError T.o_BadRule T.m_BadRule T.kp_BadRule (raises_own T.r_BadRule T.t_BadRule) rfl))) pss_nil)
    (pss_cons (ps_fld (pv 0) (pv 1) rfl)
    (pss_one (ps_fld (pv 0) (pv 2) rfl)))))), ?_⟩
  have keepP : ∀ {H' : Hp}, Same H H' → H' p = some (.ins T.c_Rule dx []) := fun S => S _ _ hp
  refine ⟨_, rfl, l, rfl, hl, fun f1 H1 S1 => ?_, fun i f1 H1 d S1 hd e => ?_⟩
  · refine ⟨_, rfl, r, rfl, hr4, fun f2 H2 S2 => ?_, fun j i H2 d S2 hd e => ?_⟩
    · have S3 := S1.trans S2
      have g := keepP S3
      have hll : l.length ≤ sizeLine := by rw [sizeLine_eq]; omega
      have hlr : r.length ≤ sizeLine := by rw [sizeLine_eq]; omega
      unfold rd at k
      rw [f1] at k
      dsimp only at k
      rw [f2] at k
      dsimp only at k
      have bad : (l.length < 1 ∨ l.length > 4 ∨ r.length > 4) → E (.ref T.c_BadRule) none H2 := fun h => by
        rw [if_pos h] at k
        exact k H2 (But.of S3)
      have good : ¬ (l.length < 1 ∨ l.length > 4 ∨ r.length > 4) → tSeq (sFld K (tVar 0) (tVar 1) "left") (sFld K (tVar 0) (tVar 2) "right") { nx := fun _ H' => Q .non H', rt := Q } [some (.ref p), some (.str l), some (.str r)] H2 := fun h => by
        rw [if_neg h] at k
        refine ⟨_, rfl, _, rfl, p, _, dx, _, rfl, g, T.cl_Rule, T.na_Rule_left, by show 0 < 1000; decide, ?_⟩
        refine ⟨_, rfl, _, rfl, p, _, dx, _, rfl, upd_same, T.cl_Rule, T.na_Rule_right, by show 1 < 1000; decide, ?_⟩
        exact k _ (((But.of S3).upd (.inl (by simp))).upd (.inl (by simp))) upd_same
      refine ⟨_, rfl, _, ⟨hll, rfl⟩, ?_⟩
      show if (!((l.length : Int) != 0)) = true then _ else _
      refine ite2 (fun h => iteT (bad (.inl (by
        have h2 : ((l.length : Int) != 0) = false := by simpa using h
        have h3 : (l.length : Int) = 0 := by simpa using h2
        omega)))) (fun h => ?_)
      have hl0 : ¬ l.length < 1 := fun z => h (by
        have e : l.length = 0 := by omega
        rw [e]; rfl)
      refine ⟨_, rfl, l, rfl, hll, _, _, rfl, rfl, _, rfl, ?_⟩
      refine ite2 (fun h => iteT (bad (.inr (.inl (by have := of_decide_eq_true h; omega))))) (fun h => ?_)
      have hl4 : ¬ l.length > 4 := fun z => h (decide_eq_true (by omega))
      refine ⟨_, rfl, r, rfl, hlr, _, _, rfl, rfl, _, rfl, ?_⟩
      refine ite2 (fun h => bad (.inr (.inr (by have := of_decide_eq_true h; omega)))) (fun h => ?_)
      have hr5 : ¬ r.length > 4 := fun z => h (decide_eq_true (by omega))
      exact good (by omega)
    · have S3 := S1.trans S2
      unfold rd at k
      rw [f1] at k
      dsimp only at k
      rw [i] at k
      exact k H2 d (But.of S3) (S1.free hd) e
  · unfold rd at k
    rw [f1] at k
    exact k H1 d (But.of S1) hd e
end
end Rz

namespace Rz
open PySem PySem.Spec PyProof.Rows L2
def ruleT (l r : Str) : Str := Str.empty ++ l ++ ":" ++ r
def sp_Rule_str (cC : Addr) : Sp := fun vs H Q _ => ∃ (p dx : Addr) (l r : Str), vs = [.ref p] ∧ l.length ≤ 1000000 ∧ r.length ≤ 1000000 ∧ H p = some (.ins cC dx (ruleF l r)) ∧ Q (.str (ruleT l r)) H
theorem ruleF_left (l r : Str) : (ruleF l r).lookup ("left" : Str) = some (.str l) := by
  unfold ruleF
  rw [lookup_putF, if_neg (by decide), lookup_putF, if_pos rfl]
theorem ruleF_right (l r : Str) : (ruleF l r).lookup ("right" : Str) = some (.str r) := by
  unfold ruleF
  rw [lookup_putF, if_pos rfl]
section
variable {w : World} {K : PySem.W.Frag} {mg : Str → Option Value} {base : Heap}
theorem sc_Rule_str : FnScope N_Rule_str P_Rule_str (defScope s_Rule_str) := ⟨rfl, rfl, rfl, by decide +kernel, rfl, by decide +kernel, by decide +kernel⟩
theorem ok_Rule_str (T : Txt K mg) : FnOk prg w K mg base (L2.CX prg w) 1 T.f_Rule_str T.fd_Rule_str P_Rule_str (sp_Rule_str T.c_Rule) := by
  refine Rz.Fun.okN T.F_Rule_str sc_Rule_str (fun vs H Q E h => ?_) (fun cdv A outer s H vs Q E hr h => ?_)
  · obtain ⟨p, dx, l, r, rfl, _⟩ := h
    rfl
  obtain ⟨p, dx, l, r, rfl, hl, hr1, hp, k⟩ := h
  refine ⟨_, (pss_one (ps_ret (pe_joined (.cons (pe_fmt (pe_fld (pv 0) rfl)) (.cons pe_str (.cons (pe_fmt (pe_fld (pv 0) rfl)) .nil)))))), ?_⟩
  refine ⟨_, rfl, p, _, dx, _, _, rfl, hp, T.cl_Rule, T.na_Rule_left, ruleF_left l r, .inl ⟨l, rfl, by rw [sizeLine_eq]; omega, l, rfl, ?_, ":", rfl, ?_, ?_⟩⟩
  · rw [Str.length_append, sizeLine_eq]
    show 0 + l.length ≤ _
    omega
  · rw [Str.length_append, Str.length_append, sizeLine_eq]
    show 0 + l.length + 1 ≤ _
    omega
  refine ⟨_, rfl, p, _, dx, _, _, rfl, hp, T.cl_Rule, T.na_Rule_right, ruleF_right l r, .inl ⟨r, rfl, by rw [sizeLine_eq]; omega, r, rfl, ?_, k⟩⟩
  rw [Str.length_append, Str.length_append, Str.length_append, sizeLine_eq]
  show 0 + l.length + 1 + r.length ≤ _
  omega
end
end Rz

namespace Rz
open PySem PySem.Spec PyProof.Rows L2
def sp_law_pool (K : PySem.W.Frag) : Sp := fun vs H Q _ => ∃ (a : Addr) (ns : List Int), vs = [.ref a] ∧ SqL K H a (ns.map V.int) ∧ ns.length ≤ 63 ∧ ∀ H' d, Same H H' → H d = none → Dr H' d → Q (.ref d) H'
section
variable {w : World} {K : PySem.W.Frag} {mg : Str → Option Value} {base : Heap}
theorem sc_law_pool : FnScope N__law_pool P__law_pool (defScope s__law_pool) := ⟨rfl, rfl, rfl, by decide +kernel, rfl, by decide +kernel, by decide +kernel⟩
theorem ok_law_pool (T : Txt K mg) : FnOk prg w K mg base (L2.CX prg w) 1 T.f__law_pool T.fd__law_pool P__law_pool (sp_law_pool K) := by
  refine Rz.Fun.okN T.F__law_pool sc_law_pool (fun vs H Q E h => ?_) (fun cdv A outer s H vs Q E hr h => ?_)
  · obtain ⟨a, ns, rfl, _⟩ := h
    rfl
  obtain ⟨a, ns, rfl, hS, hlen, k⟩ := h
  have nd := sc_law_pool.nd
  refine ⟨_, pss_cons (ps_set (i := 1) nd rfl (Or.inl rfl) (pe_lst pa_nil)) (pss_cons (ps_set (i := 2) nd rfl (Or.inl rfl) pe_int)
    (pss_cons (ps_for PassesOwn.never rfl (pi_list (pv 0)) (pg_name (i := 3) nd rfl (Or.inl rfl))
      (pss_cons (ps_set (i := 4) nd rfl (Or.inl rfl) (pe_callB call_abs (by rfl) T.n_abs (by decide +kernel) (pa_cons (pv 3) pa_nil)))
      (pss_cons (ps_set (i := 2) nd rfl (Or.inl rfl) (pe_op op_mod (pe_callTy call_int1 (by rfl) T.n_int (by decide +kernel) (pa_cons (pe_op op_add (pe_op op_mul (pv 2) pe_int) (pv 4)) pa_nil)) pe_int))
      (pss_one (ps_if (pt_cmpR op_lt (pv 4) (pe_op op_pow pe_int pe_int) (nomark _))
        (pss_one (ps_expr (pe_bm PySem.F.plainAttrs_list PySem.F.slot_list_append PySem.F.type_list_append mt_append (pv 1) (pa_cons (pv 4) pa_nil))))
        (pss_one (ps_for PassesOwn.never rfl (pi_range1 rfl T.n_range (pa_cons pe_int pa_nil)) (pg_name (i := 5) nd rfl (Or.inl rfl))
          (pss_one (ps_if (pt_cmpR op_gt (pv 4) pe_int (nomark _))
            (pss_cons (ps_expr (pe_bm PySem.F.plainAttrs_list PySem.F.slot_list_append PySem.F.type_list_append mt_append (pv 1) (pa_cons (pe_op op_mod (pe_callTy call_int1 (by rfl) T.n_int (by decide +kernel) (pa_cons (pv 4) pa_nil)) pe_int) pa_nil)))
              (pss_one (ps_set (i := 4) nd rfl (Or.inl rfl) (pe_op op_fdiv (pv 4) pe_int))))
            pss_nil)))))))))
    (pss_cons (ps_for PassesOwn.never rfl (pi_range1 rfl T.n_range (pa_cons pe_int pa_nil)) (pg_name (i := 5) nd rfl (Or.inl rfl))
      (pss_cons (ps_set (i := 6) nd rfl (Or.inl rfl) (pe_op op_mod (pe_callTy call_int1 (by rfl) T.n_int (by decide +kernel) (pa_cons (pe_op op_mul (pe_op op_add (pv 2) pe_int) (pe_op op_add (pe_op op_fdiv (pe_op op_add (pe_op op_mul (pe_op op_mul pe_int (pv 5)) (pv 5)) (pe_op op_mul pe_int (pv 5))) pe_int) pe_int)) pa_nil)) pe_int))
        (pss_one (ps_expr (pe_bm PySem.F.plainAttrs_list PySem.F.slot_list_append PySem.F.type_list_append mt_append (pv 1) (pa_cons (pe_op op_mod (pe_callTy call_int1 (by rfl) T.n_int (by decide +kernel) (pa_cons (pe_op op_add (pe_op op_mul (pv 6) (pv 6)) (pv 5)) pa_nil)) pe_int) pa_nil))))))
    (pss_one (ps_ret (pv 1)))))), ?_⟩
  refine ⟨Nat.zero_le _, fun d hd => ?_⟩
  have S0 : Same H (upd H d (.lst [])) := Rz.Same.new (Same.refl H) hd
  refine ⟨_, rfl, a, rfl, ⟨_, S0.seq hS⟩, for_list (K := K) (a := a) (xs := ns.map V.int) (fun i σ H' => ∃ (ks : List Int) (sd : Int) (v3 v4 v5 v6 : Option V), σ = [some (.ref a), some (.ref d), some (.int sd), v3, v4, v5, v6] ∧ Same H H' ∧ H' d = some (.lst (ks.map V.int)) ∧ ks.length ≤ i * 60 ∧ 0 ≤ sd ∧ sd < 1009)
    ⟨[], 0, none, none, none, none, rfl, S0, upd_same, Nat.le_refl _, by omega, by omega⟩ (fun i σ H' _ ⟨_, _, _, _, _, _, _, R, _⟩ => R.seq hS) ?_ ?_⟩
  · rintro i y σ H' hi ⟨ks, sd, v3, v4, v5, v6, rfl, R, hK, hl, h0, h1⟩
    obtain ⟨u, hu, rfl⟩ := mapi_get hi
    have hi63 : i < ns.length := (List.getElem?_eq_some_iff.mp hu).1
    refine ⟨_, rfl, u, rfl, ?_⟩
    refine ⟨_, rfl, _, _, rfl, rfl, .inl ⟨by omega, by omega⟩, _, rfl, _, _, rfl, rfl, .inl ⟨_, rfl, _, _, rfl, rfl, (by show (0 : Int) < 1009; decide), ?_⟩⟩
    refine ⟨_, rfl, _, _, rfl, rfl, ⟨by decide, by decide, by decide⟩, _, _, rfl, rfl, _, rfl, ?_⟩
    generalize (if u < 0 then -u else u) = r
    have b0 : 0 ≤ (sd * 31 + r) % 1009 := by omega
    have b1 : (sd * 31 + r) % 1009 < 1009 := by omega
    refine ite2 (fun _ => ?_) (fun _ => ?_)
    · refine ⟨_, rfl, .inl ⟨rfl, _, SqL.of hK⟩, _, rfl, d, _, _, rfl, rfl, hK, (by rw [List.length_map, sizeLine_eq]; omega), ?_⟩
      exact ⟨ks ++ [r], (sd * 31 + r) % 1009, _, _, _, _, rfl, Rz.Same.upd R hd, by rw [upd_same, List.map_append]; rfl, by rw [List.length_append, List.length_singleton]; omega, b0, b1⟩
    · refine ⟨60, rfl, by decide, by decide, for_range (n := 60) (fun j σ H2 => ∃ (ks2 : List Int) (r2 : Int) (v5 : Option V), σ = [some (.ref a), some (.ref d), some (.int ((sd * 31 + r) % 1009)), some (.int u), some (.int r2), v5, v6] ∧ Same H H2 ∧ H2 d = some (.lst (ks2.map V.int)) ∧ ks2.length ≤ i * 60 + j)
        ⟨ks, r, _, rfl, R, hK, by omega⟩ ?_ ?_⟩
      · rintro j σ2 H2 hj ⟨ks2, r2, v7, rfl, R2, hK2, hl2⟩
        refine ⟨_, rfl, _, _, rfl, rfl, _, rfl, ?_⟩
        refine ite2 (fun _ => ?_) (fun _ => ?_)
        · refine ⟨_, rfl, .inl ⟨rfl, _, SqL.of hK2⟩, _, rfl, .inl ⟨_, rfl, _, _, rfl, rfl, (by show (0 : Int) < 1000; decide), d, _, _, rfl, rfl, hK2, (by rw [List.length_map, sizeLine_eq]; omega), ?_⟩⟩
          refine ⟨_, rfl, _, _, rfl, rfl, ⟨by decide, by decide⟩, ?_⟩
          exact ⟨ks2 ++ [r2 % 1000], _, _, rfl, Rz.Same.upd R2 hd, by rw [upd_same, List.map_append]; rfl, by rw [List.length_append, List.length_singleton]; omega⟩
        · exact ⟨ks2, r2, _, rfl, R2, hK2, by omega⟩
      · rintro σ2 H2 ⟨ks2, r2, v7, rfl, R2, hK2, hl2⟩
        exact ⟨ks2, (sd * 31 + r) % 1009, _, _, _, _, rfl, R2, hK2, by omega, b0, b1⟩
  · rintro σ H' ⟨ks, sd, v3, v4, v5, v6, rfl, R, hK, hl, h0, h1⟩
    rw [List.length_map] at hl
    refine ⟨90, rfl, by decide, by decide, for_range (n := 90) (fun j σ H2 => ∃ (ks2 : List Int) (v5 v6 : Option V), σ = [some (.ref a), some (.ref d), some (.int sd), v3, v4, v5, v6] ∧ Same H H2 ∧ H2 d = some (.lst (ks2.map V.int)) ∧ ks2.length ≤ 3780 + j)
      ⟨ks, _, _, rfl, R, hK, by omega⟩ ?_ ?_⟩
    · rintro j σ2 H2 hj ⟨ks2, v7, v8, rfl, R2, hK2, hl2⟩
      refine ⟨_, rfl, _, _, rfl, rfl, _, rfl, _, _, rfl, rfl, .inl ⟨by decide, by decide⟩, _, rfl, _, _, rfl, rfl, .inl ⟨by omega, by omega⟩, _, rfl, _, _, rfl, rfl, .inl ⟨by decide, by decide⟩, _, _, rfl, rfl,
        _, _, rfl, rfl, ⟨by decide, by decide⟩, _, _, rfl, rfl, _, _, rfl, rfl, .inl ⟨by omega, by omega⟩, .inl ⟨_, rfl, _, _, rfl, rfl, (by show (0 : Int) < 1009; decide), ?_⟩⟩
      have m0 : ∀ z : Int, -(2 ^ 64) < z % 1009 ∧ z % 1009 < 2 ^ 64 := fun z => by omega
      refine ⟨_, rfl, .inl ⟨rfl, _, SqL.of hK2⟩, _, rfl, _, rfl, _, _, rfl, rfl, .inl (m0 _), _, rfl, _, _, rfl, rfl, .inl ⟨_, rfl, _, _, rfl, rfl, (by show (0 : Int) < 1013; decide), d, _, _, rfl, rfl, hK2, (by rw [List.length_map, sizeLine_eq]; omega), ?_⟩⟩
      exact ⟨ks2 ++ [_], _, _, rfl, Rz.Same.upd R2 hd, by rw [upd_same, List.map_append]; rfl, by rw [List.length_append, List.length_singleton]; omega⟩
    · rintro σ2 H2 ⟨ks2, v7, v8, rfl, R2, hK2, hl2⟩
      exact ⟨_, rfl, k H2 d R2 hd ⟨ks2, hK2, by omega⟩⟩
end
end Rz

namespace Rz
open PySem PySem.Spec PyProof.Rows L2
def sp_law_pick : Sp := fun vs H Q _ => ∃ (d : Addr) (m : Int), vs = [.ref d, .int m] ∧ 0 < m ∧ Dr H d ∧ ∀ H' r, 0 ≤ r → r < m → Dr H' d → But [d] H H' → Q (.int r) H'
section
variable {w : World} {K : PySem.W.Frag} {mg : Str → Option Value} {base : Heap}
theorem sc_law_pick : FnScope N__law_pick P__law_pick (defScope s__law_pick) := ⟨rfl, rfl, rfl, by decide +kernel, rfl, by decide +kernel, by decide +kernel⟩
theorem ok_law_pick (T : Txt K mg) : FnOk prg w K mg base (L2.CX prg w) 1 T.f__law_pick T.fd__law_pick P__law_pick sp_law_pick := by
  refine Rz.Fun.okN T.F__law_pick sc_law_pick (fun vs H Q E h => ?_) (fun cdv A outer s H vs Q E hr h => ?_)
  · obtain ⟨d, m, rfl, _⟩ := h
    rfl
  obtain ⟨d, m, rfl, hm, ⟨ns, hd, hl⟩, k⟩ := h
  have nd := sc_law_pick.nd
  refine ⟨_, (pss_cons (ps_if (pt_cmpR (op_eqD hr.units) (pv 0) (pe_lst pa_nil) (nomark _)) (pss_one (ps_ret pe_int)) pss_nil)
    (pss_one (ps_ret (pe_op op_mod (pe_callTy call_int1 (by rfl) T.n_int (by decide +kernel) (pa_cons (pe_bm PySem.F.plainAttrs_list PySem.F.slot_list_pop PySem.F.type_list_pop mt_popAt (pv 0) (pa_cons pe_int pa_nil)) pa_nil)) (pv 1))))), ?_⟩
  refine ⟨_, rfl, Nat.zero_le _, fun p hp => ?_⟩
  have np : d ≠ p := ne_of_none hd hp
  have hd2 : upd H p (.lst []) d = some (.lst (ns.map V.int)) := by rw [upd_ne np]; exact hd
  refine ⟨dInts ns, dInts [], dp_ints (SqL.of hd2), dp_ints (SqL.of upd_same), ints_shaped _, ints_shaped _, _, rfl, ?_⟩
  rw [ints_eqv]
  refine ite2 (fun e => ?_) (fun e => ?_)
  · exact k _ 0 (Int.le_refl _) hm ⟨ns, hd2, hl⟩ ((But.refl [d] H).upd (.inr hp))
  · have e2 : ns ≠ [] := fun z => e (decide_eq_true z)
    obtain ⟨x, r, rfl⟩ := List.exists_cons_of_ne_nil e2
    refine ⟨_, rfl, .inl ⟨rfl, _, SqL.of hd2⟩, d, _, 0, 0, .int x, rfl, rfl, hd2, by decide, by decide, (by simp [seqIndex?]), rfl, .inl ⟨x, rfl, ?_⟩⟩
    refine ⟨_, rfl, x, m, rfl, rfl, hm, ?_⟩
    refine k _ _ (Int.emod_nonneg _ (by omega)) (Int.emod_lt_of_pos _ hm) ⟨r, by rw [upd_same]; rfl, by simp at hl; omega⟩ (((But.refl [d] H).upd (.inr hp)).upd (.inl (by simp)))
end
end Rz

namespace Rz
open PySem PySem.Spec PyProof.Rows L2
/-- some word over the signs of z, not longer than g -/
def sp_law_word_of : Sp := fun vs H Q _ => ∃ (d : Addr) (z : Str) (l g : Int), vs = [.ref d, .str z, .int l, .int g] ∧ 0 ≤ l ∧ l ≤ g ∧ g ≤ 1000 ∧ 0 < z.length ∧ z.length ≤ 1000 ∧ Dr H d ∧
  ∀ H' (x : Str), (l : Int) ≤ x.length → (x.length : Int) ≤ g → Over z x → Dr H' d → But [d] H H' → Q (.str x) H'
section
variable {w : World} {K : PySem.W.Frag} {mg : Str → Option Value} {base : Heap}
theorem sc_law_word_of : FnScope N__law_word_of P__law_word_of (defScope s__law_word_of) := ⟨rfl, rfl, rfl, by decide +kernel, rfl, by decide +kernel, by decide +kernel⟩
theorem ok_law_word_of (T : Txt K mg) : FnOk prg w K mg base (L2.CX prg w) 2 T.f__law_word_of T.fd__law_word_of P__law_word_of sp_law_word_of := by
  refine Rz.Fun.okN T.F__law_word_of sc_law_word_of (fun vs H Q E h => ?_) (fun cdv A outer s H vs Q E hr h => ?_)
  · obtain ⟨d, z, l, g, rfl, _⟩ := h
    rfl
  obtain ⟨d, z, l, g, rfl, hl0, hlg, hg, hz0, hz, hD, k⟩ := h
  have nd := sc_law_word_of.nd
  refine ⟨_, (pss_cons (ps_set (i := 4) nd rfl (Or.inl rfl) (pe_op op_add (pv 2) (pe_fn (ok_law_pick T) (hr.mono (by decide)) (by rfl) T.m__law_pick T.F__law_pick.kp T.b__law_pick .nil (fun _ => atN _) (pa_cons (pv 0) (pa_cons (pe_op op_add (pe_op op_sub (pv 3) (pv 2)) pe_int) pa_nil)))))
    (pss_one (ps_ret (pe_join pe_str (pe_lc (own := [("_law_k", 5)]) (g := (gName 5)) (tt := tYes) rfl nd (pi_range1 rfl T.n_range (pa_cons (pv 4) pa_nil)) (blkOk_by (N := N__law_word_of) (sc := defScope s__law_word_of) (by decide +kernel)) (fun _ _ _ _ _ => (pg_name (i := 5) nd rfl (Or.inl rfl))) (fun _ _ _ _ _ => pts_nil)
      (fun _ _ _ _ _ => (pe_ix ix_str (pv 1) (pe_fn (ok_law_pick T) (hr.mono (by decide)) (by rfl) T.m__law_pick T.F__law_pick.kp T.b__law_pick .nil (fun _ => atN _) (pa_cons (pv 0) (pa_cons (pe_callB call_len_str (by rfl) T.n_len PySem.boot_len (pa_cons (pv 1) pa_nil)) pa_nil))) (fun _ _ => rfl)))))))), ?_⟩
  refine ⟨_, rfl, _, rfl, _, rfl, _, rfl, _, _, rfl, rfl, _, _, rfl, rfl, d, _, rfl, by omega, hD, fun H1 r h0 h1 D1 B1 => ⟨_, _, rfl, rfl, ?_⟩⟩
  refine ⟨⟨_, rfl⟩, _, rfl, l + r, rfl, by omega, by omega, fun D hDn => lc_range (lo := 0) (n := (l + r).toNat) (fun i H2 => ∃ ys : List Str, H2 D = some (.lst (ys.map V.str)) ∧ ys.length = i ∧ (∀ y ∈ ys, y.length = 1 ∧ Over z y) ∧ Dr H2 d ∧ But [d] H H2) ?_ ?_ ?_⟩
  · exact ⟨[], upd_same, rfl, (fun y hy => by cases hy), D1.same (Rz.Same.new (Same.refl _) hDn), B1.upd (.inr (B1.free (fun z => by
      obtain ⟨_, q, _⟩ := D1
      have e : D = d := by simpa using z
      rw [e, q] at hDn
      cases hDn) hDn))⟩
  · rintro i H2 hi ⟨ys, hY, hl, hy, D2, B2⟩
    refine ⟨rfl, yesT ⟨_, rfl, _, rfl, _, rfl, z, rfl, by rw [sizeLine_eq]; omega, d, _, rfl, by omega, D2, fun H3 r2 g0 g1 D3 B3 => ?_⟩⟩
    obtain ⟨c, hc, hat⟩ := atI_in (xs := z.cps.toList) g0 (by rw [len_list]; exact g1)
    have nDd : D ∉ [d] := fun z => by
      obtain ⟨_, q, _⟩ := D1
      have e : D = d := by simpa using z
      rw [e, q] at hDn
      cases hDn
    have hY3 := B3.at hY nDd
    have l3 : ys.length < sizeLine := by rw [sizeLine_eq]; omega
    refine ⟨z, _, c, rfl, rfl, by rw [sizeLine_eq]; omega, hat, _, hY3, by rw [List.length_map]; exact l3, ys ++ [⟨#[c]⟩], by rw [upd_same, List.map_append]; rfl, by rw [List.length_append, hl]; rfl, fun y h => ?_, ?_, ?_⟩
    · rcases List.mem_append.mp h with h | h
      · exact hy y h
      · have e : y = ⟨#[c]⟩ := by simpa using h
        subst e
        exact ⟨rfl, fun c2 h2 => by
          have e2 : c2 = c := by simpa using h2
          rw [e2]
          exact hc⟩
    · obtain ⟨ns, n1, n2⟩ := D3
      exact ⟨ns, by rw [upd_ne (fun z => nDd (by simp [z]))]; exact n1, n2⟩
    · exact (B2.trans B3).upd (.inr (B1.free nDd hDn))
  · rintro H2 ⟨ys, hY, hl, hy, D2, B2⟩
    have s1 := sum_ones fun y h => (hy y h).1
    refine ⟨_, D, ys, rfl, rfl, .inl (SqL.of hY), by show _ + ys.length * 0 ≤ _; omega, k H2 _ ?_ ?_ (over_join fun y h => (hy y h).2) D2 B2⟩
    · rw [join0_len]; omega
    · rw [join0_len]; omega
end
end Rz

namespace Rz
open PySem PySem.Spec PyProof.Rows L2
def sp_law_is_int : Sp := fun vs H Q _ => ∃ n : Int, vs = [.int n] ∧ Q (.bl true) H
section
variable {w : World} {K : PySem.W.Frag} {mg : Str → Option Value} {base : Heap}
theorem sc_law_is_int : FnScope N__law_is_int P__law_is_int (defScope s__law_is_int) := ⟨rfl, rfl, rfl, by decide +kernel, rfl, by decide +kernel, by decide +kernel⟩
theorem ok_law_is_int (T : Txt K mg) : FnOk prg w K mg base (L2.CX prg w) 1 T.f__law_is_int T.fd__law_is_int P__law_is_int sp_law_is_int := by
  refine Rz.Fun.okN T.F__law_is_int sc_law_is_int (fun vs H Q E h => ?_) (fun cdv A outer s H vs Q E hr h => ?_)
  · obtain ⟨n, rfl, _⟩ := h
    rfl
  obtain ⟨n, rfl, k⟩ := h
  refine ⟨_, (pss_one (ps_ret (pe_and (pe_callB call_isi (by rfl) T.n_isinstance (by decide +kernel) (pa_cons (pv 0) (pa_cons (pe_bltn (v := .ty "int") (by rfl) T.n_int (by decide +kernel) rfl) pa_nil))) (pe_one (pe_not (pe_callB call_isi (by rfl) T.n_isinstance (by decide +kernel) (pa_cons (pv 0) (pa_cons (pe_bltn (v := .ty "bool") (by rfl) T.n_bool (by decide +kernel) rfl) pa_nil)))))))), ?_⟩
  refine ⟨_, rfl, _, _, .type "int", .type "int", true, rfl, .ty _, .base (.int n), kit_ty (by decide +kernel), true, rfl, ?_⟩
  exact iteT ⟨_, rfl, _, _, .type "int", .type "bool", false, rfl, .ty _, .base (.int n), kit_ty (by decide +kernel), false, rfl, k⟩
end
end Rz

namespace Rz
open PySem PySem.Spec PyProof.Rows L2
def sp_law_odd_sign : Sp := fun vs H Q _ => ∃ d : Addr, vs = [.ref d] ∧ Dr H d ∧ ∀ H' c, Dr H' d → But [d] H H' → Q (.str ⟨#[c]⟩) H'
section
variable {w : World} {K : PySem.W.Frag} {mg : Str → Option Value} {base : Heap}
theorem sc_law_odd_sign : FnScope N__law_odd_sign P__law_odd_sign (defScope s__law_odd_sign) := ⟨rfl, rfl, rfl, by decide +kernel, rfl, by decide +kernel, by decide +kernel⟩
theorem ok_law_odd_sign (T : Txt K mg) : FnOk prg w K mg base (L2.CX prg w) 2 T.f__law_odd_sign T.fd__law_odd_sign P__law_odd_sign sp_law_odd_sign := by
  refine Rz.Fun.okN T.F__law_odd_sign sc_law_odd_sign (fun vs H Q E h => ?_) (fun cdv A outer s H vs Q E hr h => ?_)
  · obtain ⟨d, rfl, _⟩ := h
    rfl
  obtain ⟨d, rfl, hD, k⟩ := h
  have nd := sc_law_odd_sign.nd
  refine ⟨_, (pss_cons (ps_set (i := 1) nd rfl (Or.inl rfl) pe_str)
    (pss_one (ps_ret (pe_ix ix_str (pv 1) (pe_fn (ok_law_pick T) (hr.mono (by decide)) (by rfl) T.m__law_pick T.F__law_pick.kp T.b__law_pick .nil (fun _ => atN _) (pa_cons (pv 0) (pa_cons (pe_callB call_len_str (by rfl) T.n_len PySem.boot_len (pa_cons (pv 1) pa_nil)) pa_nil))) (fun _ _ => rfl))))), ?_⟩
  refine ⟨_, rfl, _, rfl, _, rfl, _, rfl, by decide +kernel, d, _, rfl, by decide +kernel, hD, fun H1 r h0 h1 D1 B1 => ?_⟩
  obtain ⟨c, _, hat⟩ := atI_in h0 (by rw [len_list]; exact h1)
  exact ⟨_, _, c, rfl, rfl, by decide +kernel, hat, k H1 c D1 B1⟩
end
end Rz

namespace Rz
open PySem PySem.Spec PyProof.Rows L2
def sp_law_first_odd : Sp := fun vs H Q _ => ∃ z : Str, vs = [.str z] ∧ z.length ≤ 1000000 ∧ Q (.int (foI z)) H
section
variable {w : World} {K : PySem.W.Frag} {mg : Str → Option Value} {base : Heap}
theorem sc_law_first_odd : FnScope N__law_first_odd P__law_first_odd (defScope s__law_first_odd) := ⟨rfl, rfl, rfl, by decide +kernel, rfl, by decide +kernel, by decide +kernel⟩
theorem ok_law_first_odd (T : Txt K mg) : FnOk prg w K mg base (L2.CX prg w) 1 T.f__law_first_odd T.fd__law_first_odd P__law_first_odd sp_law_first_odd := by
  refine Rz.Fun.okN T.F__law_first_odd sc_law_first_odd (fun vs H Q E h => ?_) (fun cdv A outer s H vs Q E hr h => ?_)
  · obtain ⟨z, rfl, _⟩ := h
    rfl
  obtain ⟨z, rfl, hz, k⟩ := h
  have nd := sc_law_first_odd.nd
  refine ⟨_, (pss_cons (ps_for PassesOwn.never rfl (pi_range1 rfl T.n_range (pa_cons (pe_callB call_len_str (by rfl) T.n_len PySem.boot_len (pa_cons (pv 0) pa_nil)) pa_nil)) (pg_name (i := 1) nd rfl (Or.inl rfl))
      (pss_one (ps_if (pt_cmpR op_notIn_sign (pe_ix ix_str (pv 0) (pv 1) (fun _ _ => rfl)) pe_str rfl) (pss_one (ps_ret (pv 1))) pss_nil)))
    (pss_one (ps_ret (pe_un un_neg pe_int)))), ?_⟩
  refine ⟨_, rfl, z, rfl, by rw [sizeLine_eq]; omega, z.length, rfl, by omega, by omega, for_range (n := z.length) (fun i σ H' => ∃ v1 : Option V, σ = [some (.str z), v1] ∧ H' = H ∧ ∀ (j c : Nat), j < i → z.cps.toList[j]? = some c → oddC c = false)
    ⟨_, rfl, rfl, fun j c hj => absurd hj (Nat.not_lt_zero j)⟩ ?_ ?_⟩
  · rintro i σ H1 hi ⟨v1, rfl, rfl, hb⟩
    have hiz : i < z.cps.toList.length := by rw [len_list]; simpa using hi
    have hc : z.cps.toList[i]? = some z.cps.toList[i] := List.getElem?_eq_getElem hiz
    generalize z.cps.toList[i] = c at hc
    have hat : atI z.cps.toList (0 + (i : Int)) = some c := by
      rw [show (0 + (i : Int)) = ((i : Nat) : Int) by omega]
      exact atI_nat hc
    refine ⟨_, rfl, _, rfl, z, 0 + (i : Int), c, rfl, rfl, by rw [sizeLine_eq]; omega, hat, c, abc, rfl, rfl, _, rfl, ?_⟩
    refine ite2 (fun ho => ?_) (fun ho => ?_)
    · have hfo := fo_some hc ho hb
      refine ⟨_, rfl, ?_⟩
      have e : foI z = 0 + (i : Int) := by unfold foI; rw [hfo]; show (i : Int) = 0 + (i : Int); omega
      rw [← e]
      exact k
    · refine ⟨_, rfl, rfl, fun j c2 hj h2 => ?_⟩
      by_cases e : j < i
      · exact hb j c2 e h2
      · have e3 : j = i := by omega
        subst e3
        rw [hc] at h2
        cases h2
        simpa [oddC] using ho
  · rintro σ H1 ⟨v1, rfl, rfl, hb⟩
    have hfo : fo z = none := fo_none fun j c hj => hb j c (by
      have hl := (List.getElem?_eq_some_iff.mp hj).1
      rw [len_list] at hl
      exact hl) hj
    refine ⟨_, rfl, ?_⟩
    have e : foI z = -1 := by unfold foI; rw [hfo]
    show Q (.int (-1)) H1
    rw [← e]
    exact k
end
end Rz

namespace Rz
open PySem PySem.Spec PyProof.Rows L2
def rdS : RD → Str
  | .sign _ => "sign"
  | .bad => "rule"
  | .good => "good"
def rdN : RD → Int
  | .sign i => i
  | .bad => 0
  | .good => 0
/-- what a try tells of Rule(l, r) -/
def Told (cC : Addr) (H : Hp) (p : Addr) (l r : Str) : Prop := match rd l r with
  | .sign i => H p = some (.tup [.str "sign", .int (i : Nat)])
  | .bad => H p = some (.tup [.str "rule", .int 0])
  | .good => ∃ q dx, H p = some (.tup [.str "good", .ref q]) ∧ H q = some (.ins cC dx (ruleF l r))
def sp_law_due_of : Sp := fun vs H Q _ => ∃ l r : Str, vs = [.str l, .str r] ∧ l.length ≤ 1000000 ∧ r.length ≤ 1000000 ∧ ∀ p, H p = none → Q (.ref p) (upd H p (.tup [.str (rdS (rd l r)), .int (rdN (rd l r))]))
section
variable {w : World} {K : PySem.W.Frag} {mg : Str → Option Value} {base : Heap}
theorem sc_law_due_of : FnScope N__law_due_of P__law_due_of (defScope s__law_due_of) := ⟨rfl, rfl, rfl, by decide +kernel, rfl, by decide +kernel, by decide +kernel⟩
theorem ok_law_due_of (T : Txt K mg) : FnOk prg w K mg base (L2.CX prg w) 2 T.f__law_due_of T.fd__law_due_of P__law_due_of sp_law_due_of := by
  refine Rz.Fun.okN T.F__law_due_of sc_law_due_of (fun vs H Q E h => ?_) (fun cdv A outer s H vs Q E hr h => ?_)
  · obtain ⟨l, r, rfl, _⟩ := h
    rfl
  obtain ⟨l, r, rfl, hl, hr2, k⟩ := h
  refine ⟨_, (pss_cons (ps_if (pt_cmpR op_ge (pe_fn (ok_law_first_odd T) (hr.mono (by decide)) (by rfl) T.m__law_first_odd T.F__law_first_odd.kp T.b__law_first_odd .nil (fun _ => atN _) (pa_cons (pv 0) pa_nil)) pe_int (nomark _)) (pss_one (ps_ret (pe_tup (pa_cons pe_str (pa_cons (pe_fn (ok_law_first_odd T) (hr.mono (by decide)) (by rfl) T.m__law_first_odd T.F__law_first_odd.kp T.b__law_first_odd .nil (fun _ => atN _) (pa_cons (pv 0) pa_nil)) pa_nil))))) pss_nil)
    (pss_cons (ps_if (pt_cmpR op_ge (pe_fn (ok_law_first_odd T) (hr.mono (by decide)) (by rfl) T.m__law_first_odd T.F__law_first_odd.kp T.b__law_first_odd .nil (fun _ => atN _) (pa_cons (pv 1) pa_nil)) pe_int (nomark _)) (pss_one (ps_ret (pe_tup (pa_cons pe_str (pa_cons (pe_fn (ok_law_first_odd T) (hr.mono (by decide)) (by rfl) T.m__law_first_odd T.F__law_first_odd.kp T.b__law_first_odd .nil (fun _ => atN _) (pa_cons (pv 1) pa_nil)) pa_nil))))) pss_nil)
    (pss_cons (ps_if (PW.pt (pw_or (pt_cmpR op_lt (pe_callB call_len_str (by rfl) T.n_len PySem.boot_len (pa_cons (pv 0) pa_nil)) pe_int (nomark _)) (pw_or (pt_cmpR op_gt (pe_callB call_len_str (by rfl) T.n_len PySem.boot_len (pa_cons (pv 0) pa_nil)) pe_int (nomark _)) (pw_or1 (pt_cmpR op_gt (pe_callB call_len_str (by rfl) T.n_len PySem.boot_len (pa_cons (pv 1) pa_nil)) pe_int (nomark _)))))) (pss_one (ps_ret (pe_tup (pa_cons pe_str (pa_cons pe_int pa_nil))))) pss_nil)
    (pss_one (ps_ret (pe_tup (pa_cons pe_str (pa_cons pe_int pa_nil)))))))), ?_⟩
  have two : (2 : Nat) ≤ sizeLine := by decide
  have hll : l.length ≤ sizeLine := by rw [sizeLine_eq]; omega
  have hlr : r.length ≤ sizeLine := by rw [sizeLine_eq]; omega
  refine ⟨_, rfl, l, rfl, hl, _, _, rfl, rfl, _, rfl, ?_⟩
  cases f1 : fo l with
  | some i =>
    have e1 : foI l = (i : Int) := by unfold foI; rw [f1]
    have e2 : rd l r = .sign i := by unfold rd; rw [f1]
    rw [e2] at k
    refine ite2 (fun _ => ?_) (fun z => absurd (decide_eq_true (by rw [e1]; omega)) z)
    refine ⟨_, rfl, l, rfl, hl, two, fun p hp => ?_⟩
    rw [e1]
    exact k p hp
  | none =>
    have e1 : foI l = -1 := by unfold foI; rw [f1]
    refine ite2 (fun z => absurd (of_decide_eq_true z) (by rw [e1]; omega)) (fun _ => ?_)
    refine ⟨_, rfl, r, rfl, hr2, _, _, rfl, rfl, _, rfl, ?_⟩
    cases f2 : fo r with
    | some i =>
      have e1 : foI r = (i : Int) := by unfold foI; rw [f2]
      have e2 : rd l r = .sign i := by unfold rd; rw [f1]; dsimp only; rw [f2]
      rw [e2] at k
      refine ite2 (fun _ => ?_) (fun z => absurd (decide_eq_true (by rw [e1]; omega)) z)
      refine ⟨_, rfl, r, rfl, hr2, two, fun p hp => ?_⟩
      rw [e1]
      exact k p hp
    | none =>
      have e1 : foI r = -1 := by unfold foI; rw [f2]
      refine ite2 (fun z => absurd (of_decide_eq_true z) (by rw [e1]; omega)) (fun _ => ?_)
      have e2 : rd l r = if l.length < 1 ∨ l.length > 4 ∨ r.length > 4 then .bad else .good := by unfold rd; rw [f1]; dsimp only; rw [f2]
      rw [e2] at k
      have bad : (l.length < 1 ∨ l.length > 4 ∨ r.length > 4) → tRet (tTup (tCons (tC (.str "rule")) (tCons (tC (.int 0)) tNil))) { nx := fun _ H' => Q .non H', rt := Q } [some (.str l), some (.str r)] H := fun h => by
        rw [if_pos h] at k
        exact ⟨two, k⟩
      refine ⟨_, rfl, l, rfl, hll, _, _, rfl, rfl, _, rfl, ?_⟩
      refine ite2 (fun h => iteT (bad (.inl (by have := of_decide_eq_true h; omega)))) (fun h => ?_)
      have hl0 : ¬ l.length < 1 := fun z => h (decide_eq_true (by omega))
      refine ⟨_, rfl, l, rfl, hll, _, _, rfl, rfl, _, rfl, ?_⟩
      refine ite2 (fun h => iteT (bad (.inr (.inl (by have := of_decide_eq_true h; omega))))) (fun h => ?_)
      have hl4 : ¬ l.length > 4 := fun z => h (decide_eq_true (by omega))
      refine ⟨_, rfl, r, rfl, hlr, _, _, rfl, rfl, _, rfl, ?_⟩
      refine ite2 (fun h => bad (.inr (.inr (by have := of_decide_eq_true h; omega)))) (fun h => ?_)
      have hr5 : ¬ r.length > 4 := fun z => h (decide_eq_true (by omega))
      rw [if_neg (by omega)] at k
      exact ⟨two, k⟩
end
end Rz

namespace Rz
open PySem PySem.Spec PyProof.Rows L2
def sp_law_same (cC : Addr) : Sp := fun vs H Q _ => ∃ (p : Addr) (l r : Str), vs = [.ref p, .str l, .str r] ∧ l.length ≤ 1000000 ∧ r.length ≤ 1000000 ∧ Told cC H p l r ∧ ∀ H', Same H H' → Q (.bl true) H'
section
variable {w : World} {K : PySem.W.Frag} {mg : Str → Option Value} {base : Heap}
theorem sc_law_same : FnScope N__law_same P__law_same (defScope s__law_same) := ⟨rfl, rfl, rfl, by decide +kernel, rfl, by decide +kernel, by decide +kernel⟩
theorem ok_law_same (T : Txt K mg) : FnOk prg w K mg base (L2.CX prg w) 4 T.f__law_same T.fd__law_same P__law_same (sp_law_same T.c_Rule) := by
  refine Rz.Fun.okN T.F__law_same sc_law_same (fun vs H Q E h => ?_) (fun cdv A outer s H vs Q E hr h => ?_)
  · obtain ⟨p, l, r, rfl, _⟩ := h
    rfl
  obtain ⟨p, l, r, rfl, hl, hr2, hT, k⟩ := h
  have nd := sc_law_same.nd
  refine ⟨_, (pss_cons (ps_set (i := 3) nd rfl (Or.inl rfl) (pe_fn (ok_law_due_of T) (hr.mono (by decide)) (by rfl) T.m__law_due_of T.F__law_due_of.kp T.b__law_due_of .nil (fun _ => atN _) (pa_cons (pv 1) (pa_cons (pv 2) pa_nil))))
    (pss_cons (ps_if (pt_cmpR op_ne (pe_ix ix_tup (pv 0) pe_int (fun _ _ => rfl)) (pe_ix ix_tup (pv 3) pe_int (fun _ _ => rfl)) (nomark _)) (pss_one (ps_ret pe_bl)) pss_nil)
    (pss_cons (ps_if (pt_cmpR op_eq (pe_ix ix_tup (pv 3) pe_int (fun _ _ => rfl)) pe_str (nomark _)) (pss_cons (ps_set (i := 4) nd rfl (Or.inl rfl) (pe_ix ix_tup (pv 0) pe_int (fun _ _ => rfl)))
      (pss_one (ps_ret (pe_and (pe_callB call_isi (by rfl) T.n_isinstance (by decide +kernel) (pa_cons (pe_fld (pv 4) rfl) (pa_cons (pe_bltn (v := .ty "str") (by rfl) T.n_str (by decide +kernel) rfl) pa_nil))) (pe_and (pe_cmpR op_eq (pe_fld (pv 4) rfl) (pv 1) (nomark _)) (pe_and (pe_cmpR op_eq (pe_fld (pv 4) rfl) (pv 2) (nomark _))
        (pe_one (pe_cmpR op_eq (pe_callTy (call_strO T.M_Rule_str (ok_Rule_str T) (hr.mono (by decide)) T.b_Rule_str) (by rfl) T.n_str (by decide +kernel) (pa_cons (pv 4) pa_nil)) (pe_op op_add_str (pe_op op_add_str (pv 1) pe_str) (pv 2)) (nomark _))))))))) pss_nil)
    (pss_one (ps_ret (pe_and (pe_fn (ok_law_is_int T) (hr.mono (by decide)) (by rfl) T.m__law_is_int T.F__law_is_int.kp T.b__law_is_int .nil (fun _ => atN _) (pa_cons (pe_ix ix_tup (pv 0) pe_int (fun _ _ => rfl)) pa_nil)) (pe_one (pe_cmpR op_eq (pe_ix ix_tup (pv 0) pe_int (fun _ _ => rfl)) (pe_ix ix_tup (pv 3) pe_int (fun _ _ => rfl)) (nomark _))))))))), ?_⟩
  refine ⟨_, rfl, _, rfl, l, r, rfl, hl, hr2, fun q hq => ?_⟩
  have S1 : ∀ o, Same H (upd H q o) := fun o => Rz.Same.new (Same.refl H) hq
  unfold Told at hT
  generalize rd l r = d at hT ⊢
  cases d with
  | sign i =>
    have hp := S1 (.tup [.str (rdS (.sign i)), .int (rdN (.sign i))]) _ _ hT
    refine ⟨_, rfl, p, _, _, _, rfl, rfl, SqT.of hp, rfl, _, rfl, q, _, _, _, rfl, rfl, SqT.of upd_same, rfl, rfl, _, rfl, ?_⟩
    refine iteF ?_
    refine ⟨_, rfl, q, _, _, _, rfl, rfl, SqT.of upd_same, rfl, rfl, _, rfl, ?_⟩
    refine iteF ?_
    refine ⟨_, rfl, p, _, _, _, rfl, rfl, SqT.of hp, rfl, _, rfl, true, rfl, ?_⟩
    refine iteT ⟨_, rfl, p, _, _, _, rfl, rfl, SqT.of hp, rfl, _, rfl, q, _, _, _, rfl, rfl, SqT.of upd_same, rfl, rfl, ?_⟩
    show Q (.bl (decide (V.int (i : Nat) = V.int (i : Nat)))) _
    rw [decide_eq_true rfl]
    exact k _ (S1 _)
  | bad =>
    have hp := S1 (.tup [.str (rdS .bad), .int (rdN .bad)]) _ _ hT
    refine ⟨_, rfl, p, _, _, _, rfl, rfl, SqT.of hp, rfl, _, rfl, q, _, _, _, rfl, rfl, SqT.of upd_same, rfl, rfl, _, rfl, ?_⟩
    refine iteF ?_
    refine ⟨_, rfl, q, _, _, _, rfl, rfl, SqT.of upd_same, rfl, rfl, _, rfl, ?_⟩
    refine iteF ?_
    refine ⟨_, rfl, p, _, _, _, rfl, rfl, SqT.of hp, rfl, _, rfl, true, rfl, ?_⟩
    exact iteT ⟨_, rfl, p, _, _, _, rfl, rfl, SqT.of hp, rfl, _, rfl, q, _, _, _, rfl, rfl, SqT.of upd_same, rfl, rfl, k _ (S1 _)⟩
  | good =>
    obtain ⟨ru, dx, hT, hR⟩ := hT
    have hp := S1 (.tup [.str (rdS .good), .int (rdN .good)]) _ _ hT
    have hR2 := S1 (.tup [.str (rdS .good), .int (rdN .good)]) _ _ hR
    refine ⟨_, rfl, p, _, _, _, rfl, rfl, SqT.of hp, rfl, _, rfl, q, _, _, _, rfl, rfl, SqT.of upd_same, rfl, rfl, _, rfl, ?_⟩
    refine iteF ?_
    refine ⟨_, rfl, q, _, _, _, rfl, rfl, SqT.of upd_same, rfl, rfl, _, rfl, ?_⟩
    refine iteT ?_
    refine ⟨_, rfl, p, _, _, _, rfl, rfl, SqT.of hp, rfl, ?_⟩
    refine ⟨_, rfl, ru, _, dx, _, _, rfl, hR2, T.cl_Rule, T.na_Rule_left, ruleF_left l r, _, _, .type "str", .type "str", true, rfl, .ty _, .base (.str l), kit_ty (by decide +kernel), true, rfl, ?_⟩
    refine iteT ⟨_, rfl, ru, _, dx, _, _, rfl, hR2, T.cl_Rule, T.na_Rule_left, ruleF_left l r, _, rfl, rfl, _, rfl, ?_⟩
    rw [decide_eq_true rfl]
    refine iteT ⟨_, rfl, ru, _, dx, _, _, rfl, hR2, T.cl_Rule, T.na_Rule_right, ruleF_right l r, _, rfl, rfl, _, rfl, ?_⟩
    rw [decide_eq_true rfl]
    refine iteT ⟨_, rfl, ru, dx, _, rfl, hR2, ru, dx, l, r, rfl, hl, hr2, hR2, ⟨_, rfl⟩, ?_⟩
    refine ⟨_, rfl, _, _, rfl, rfl, ?_, _, rfl, _, _, rfl, rfl, ?_, rfl, ?_⟩
    · rw [sizeLine_eq]
      show l.length + 1 ≤ _
      omega
    · rw [Str.length_append, sizeLine_eq]
      show l.length + 1 + r.length ≤ _
      omega
    · have e : ruleT l r = l ++ ":" ++ r := by
        unfold ruleT
        rw [Str.append_left_empty (x := Str.empty) (y := l) rfl]
      show Q (.bl (decide (V.str (ruleT l r) = V.str (l ++ ":" ++ r)))) _
      rw [e, decide_eq_true rfl]
      exact k _ (S1 _)
end
end Rz

namespace Rz
open PySem PySem.Spec PyProof.Rows L2
def sp_law_try_make (cC : Addr) : Sp := fun vs H Q _ => ∃ l r : Str, vs = [.str l, .str r] ∧ l.length ≤ 1000000 ∧ r.length ≤ 1000000 ∧ ∀ H' p, Same H H' → Told cC H' p l r → Q (.ref p) H'
section
variable {w : World} {K : PySem.W.Frag} {mg : Str → Option Value} {base : Heap}
theorem sc_law_try_make : FnScope N__law_try_make P__law_try_make (defScope s__law_try_make) := ⟨rfl, rfl, rfl, by decide +kernel, rfl, by decide +kernel, by decide +kernel⟩
theorem ok_law_try_make (T : Txt K mg) : FnOk prg w K mg base (L2.CX prg w) 7 T.f__law_try_make T.fd__law_try_make P__law_try_make (sp_law_try_make T.c_Rule) := by
  refine T.F__law_try_make.okX sc_law_try_make (fun vs H Q E h => ?_) (fun cdv A outer s H vs Q E hr h => ?_)
  · obtain ⟨l, r, rfl, _⟩ := h
    rfl
  obtain ⟨l, r, rfl, hl, hr2, k⟩ := h
  have nd := sc_law_try_make.nd
  obtain ⟨ds, vd, bd⟩ := bd_Rule_init_3 T
  cases vd
  refine ⟨_, (pss_cons (ps_try_mix rfl rfl takes0
      (fun W pn xe tk _ => pss_one (ps_set (i := 2) nd rfl (Or.inl rfl) (pe_mk ⟨T.mk_Rule, T.M_Rule_init.at_, T.M_Rule_init.fn, T.kp_Rule⟩ (ok_Rule_init T) (hr.mono (by decide)) (by rfl) T.m_Rule bd .nil (passAt tk) (pa_cons (pv 0) (pa_cons (pv 1) pa_nil)))))
      (HdsM.named (i := 3) nd rfl rfl ⟨rfl, by decide, .inl T.m_BadSign⟩ (fun a oe cls d pn hz hf => pss_one (ps_ret (pe_tup (pa_cons pe_str (pa_cons (pe_xf T.x_BadSign.xf T.x_BadSign.noN hz hf (pv 3)) pa_nil)))))
      (HdsM.plain ⟨rfl, by decide, .inl T.m_BadRule⟩ (fun a oe cls d pn hz hf => pss_one (ps_ret (pe_tup (pa_cons pe_str (pa_cons pe_int pa_nil))))) HdsM.nil)))
    (pss_one (ps_ret (pe_tup (pa_cons pe_str (pa_cons (pv 2) pa_nil)))))), ?_⟩
  refine ⟨_, rfl, _, rfl, fun x dx hx hdx ndx => ⟨x, dx, l, r, rfl, hl, hr2, upd_same, ?_⟩⟩
  have two : (2 : Nat) ≤ sizeLine := by decide
  have S0 : ∀ {H' : Hp}, But [x] (upd (upd H dx (.own x)) x (.ins T.c_Rule dx [])) H' → Same H H' := fun {H'} B b o e => B b o (by
    have := ne_of_none e hx
    simpa using this) (by rw [upd_ne (ne_of_none e hx), upd_ne (ne_of_none e hdx)]; exact e)
  unfold Told at k
  generalize rd l r = q at k
  cases q with
  | sign i =>
    intro H' d B hd e
    refine ⟨true, T.em_BadSign_BadSign, fun _ a ha => ?_, fun z => nomatch z⟩
    exact ⟨_, rfl, rfl, rfl, d, _, _, rfl, e, rfl, two, fun p hp => k _ p (Rz.Same.new (S0 B) hp) upd_same⟩
  | bad =>
    intro H' B
    refine ⟨false, T.em_BadRule_BadSign, (fun z => nomatch z), fun _ => ⟨true, T.em_BadRule_BadRule, fun _ a ha => ?_, fun z => nomatch z⟩⟩
    exact ⟨two, fun p hp => k _ p (Rz.Same.new (S0 B) hp) upd_same⟩
  | good =>
    intro H' B e
    refine ⟨rfl, ?_⟩
    refine ⟨_, rfl, two, fun p hp => k _ p (Rz.Same.new (S0 B) hp) ⟨x, dx, upd_same, ?_⟩⟩
    rw [upd_ne (ne_of_none e hp)]
    exact e
end
end Rz

namespace Rz
open PySem PySem.Spec PyProof.Rows L2
def sp_law_made_short (cC : Addr) : Sp := fun vs H Q _ => ∃ l : Str, vs = [.str l] ∧ l.length ≤ 1000000 ∧ ∀ H' p, Same H H' → Told cC H' p l "" → Q (.ref p) H'
section
variable {w : World} {K : PySem.W.Frag} {mg : Str → Option Value} {base : Heap}
theorem sc_law_made_short : FnScope N__law_made_short P__law_made_short (defScope s__law_made_short) := ⟨rfl, rfl, rfl, by decide +kernel, rfl, by decide +kernel, by decide +kernel⟩
theorem ok_law_made_short (T : Txt K mg) : FnOk prg w K mg base (L2.CX prg w) 7 T.f__law_made_short T.fd__law_made_short P__law_made_short (sp_law_made_short T.c_Rule) := by
  refine T.F__law_made_short.okX sc_law_made_short (fun vs H Q E h => ?_) (fun cdv A outer s H vs Q E hr h => ?_)
  · obtain ⟨l, rfl, _⟩ := h
    rfl
  obtain ⟨l, rfl, hl, k⟩ := h
  have nd := sc_law_made_short.nd
  obtain ⟨ds, vd, bd⟩ := bd_Rule_init_2 T
  refine ⟨_, (pss_cons (ps_try_mix rfl rfl takes0
      (fun W pn xe tk _ => pss_one (ps_set (i := 1) nd rfl (Or.inl rfl) (pe_mk ⟨T.mk_Rule, T.M_Rule_init.at_, T.M_Rule_init.fn, T.kp_Rule⟩ (ok_Rule_init T) (hr.mono (by decide)) (by rfl) T.m_Rule bd vd (passAt tk) (pa_cons (pv 0) pa_nil))))
      (HdsM.named (i := 2) nd rfl rfl ⟨rfl, by decide, .inl T.m_BadSign⟩ (fun a oe cls d pn hz hf => pss_one (ps_ret (pe_tup (pa_cons pe_str (pa_cons (pe_xf T.x_BadSign.xf T.x_BadSign.noN hz hf (pv 2)) pa_nil)))))
      (HdsM.plain ⟨rfl, by decide, .inl T.m_BadRule⟩ (fun a oe cls d pn hz hf => pss_one (ps_ret (pe_tup (pa_cons pe_str (pa_cons pe_int pa_nil))))) HdsM.nil)))
    (pss_one (ps_ret (pe_tup (pa_cons pe_str (pa_cons (pv 1) pa_nil)))))), ?_⟩
  refine ⟨_, rfl, fun x dx hx hdx ndx => ⟨x, dx, l, "", rfl, hl, by decide, upd_same, ?_⟩⟩
  have two : (2 : Nat) ≤ sizeLine := by decide
  have S0 : ∀ {H' : Hp}, But [x] (upd (upd H dx (.own x)) x (.ins T.c_Rule dx [])) H' → Same H H' := fun {H'} B b o e => B b o (by
    have := ne_of_none e hx
    simpa using this) (by rw [upd_ne (ne_of_none e hx), upd_ne (ne_of_none e hdx)]; exact e)
  unfold Told at k
  generalize rd l "" = q at k
  cases q with
  | sign i =>
    intro H' d B hd e
    refine ⟨true, T.em_BadSign_BadSign, fun _ a ha => ?_, fun z => nomatch z⟩
    exact ⟨_, rfl, rfl, rfl, d, _, _, rfl, e, rfl, two, fun p hp => k _ p (Rz.Same.new (S0 B) hp) upd_same⟩
  | bad =>
    intro H' B
    refine ⟨false, T.em_BadRule_BadSign, (fun z => nomatch z), fun _ => ⟨true, T.em_BadRule_BadRule, fun _ a ha => ?_, fun z => nomatch z⟩⟩
    exact ⟨two, fun p hp => k _ p (Rz.Same.new (S0 B) hp) upd_same⟩
  | good =>
    intro H' B e
    refine ⟨rfl, ?_⟩
    refine ⟨_, rfl, two, fun p hp => k _ p (Rz.Same.new (S0 B) hp) ⟨x, dx, upd_same, ?_⟩⟩
    rw [upd_ne (ne_of_none e hp)]
    exact e
end
end Rz

namespace Rz
open PySem PySem.Spec PyProof.Rows L2
def sp_law_spoilt : Sp := fun vs H Q _ => ∃ (d : Addr) (z : Str), vs = [.ref d, .str z] ∧ z.length ≤ 1000 ∧ Dr H d ∧ ∀ H' (x : Str), x.length ≤ 2 * z.length + 1 → Dr H' d → But [d] H H' → Q (.str x) H'
section
variable {w : World} {K : PySem.W.Frag} {mg : Str → Option Value} {base : Heap}
theorem sc_law_spoilt : FnScope N__law_spoilt P__law_spoilt (defScope s__law_spoilt) := ⟨rfl, rfl, rfl, by decide +kernel, rfl, by decide +kernel, by decide +kernel⟩
theorem ok_law_spoilt (T : Txt K mg) : FnOk prg w K mg base (L2.CX prg w) 3 T.f__law_spoilt T.fd__law_spoilt P__law_spoilt sp_law_spoilt := by
  refine Rz.Fun.okN T.F__law_spoilt sc_law_spoilt (fun vs H Q E h => ?_) (fun cdv A outer s H vs Q E hr h => ?_)
  · obtain ⟨d, z, rfl, _⟩ := h
    rfl
  obtain ⟨d, z, rfl, hz, hD, k⟩ := h
  have nd := sc_law_spoilt.nd
  refine ⟨_, (pss_cons (ps_set (i := 2) nd rfl (Or.inl rfl) (pe_fn (ok_law_pick T) (hr.mono (by decide)) (by rfl) T.m__law_pick T.F__law_pick.kp T.b__law_pick .nil (fun _ => atN _) (pa_cons (pv 0) (pa_cons (pe_op op_add (pe_callB call_len_str (by rfl) T.n_len PySem.boot_len (pa_cons (pv 1) pa_nil)) pe_int) pa_nil))))
    (pss_one (ps_ret (pe_op op_add_str (pe_op op_add_str (pe_slice sl_str (pv 1) po_none (po_some (pv 2))) (pe_fn (ok_law_odd_sign T) (hr.mono (by decide)) (by rfl) T.m__law_odd_sign T.F__law_odd_sign.kp T.b__law_odd_sign .nil (fun _ => atN _) (pa_cons (pv 0) pa_nil))) (pe_slice sl_str (pv 1) (po_some (pv 2)) po_none))))), ?_⟩
  refine ⟨_, rfl, _, rfl, z, rfl, by rw [sizeLine_eq]; omega, _, _, rfl, rfl, d, _, rfl, by omega, hD, fun H1 r h0 h1 D1 B1 => ?_⟩
  have c1 := cutS_length z none (some r)
  have c2 := cutS_length z (some r) none
  refine ⟨_, rfl, _, rfl, r, rfl, z, rfl, by rw [sizeLine_eq]; omega, _, rfl, d, rfl, D1, fun H2 c D2 B2 => ⟨_, _, rfl, rfl, ?_, _, rfl, _, rfl, r, rfl, z, rfl, by rw [sizeLine_eq]; omega, _, _, rfl, rfl, ?_, ?_⟩⟩
  · rw [sizeLine_eq]
    show _ + 1 ≤ _
    omega
  · rw [Str.length_append, sizeLine_eq]
    show _ + 1 + _ ≤ _
    omega
  · refine k H2 _ ?_ D2 (B1.trans B2)
    rw [Str.length_append, Str.length_append]
    show _ + 1 + _ ≤ _
    omega
end
end Rz

namespace Rz
open PySem PySem.Spec PyProof.Rows L2
def spLaw (K : PySem.W.Frag) : Sp := fun vs H Q _ => ∃ (a : Addr) (ns : List Int), vs = [.ref a] ∧ SqL K H a (ns.map V.int) ∧ ns.length ≤ 63 ∧ ∀ H', Q (.bl true) H'
section
variable {w : World} {K : PySem.W.Frag} {mg : Str → Option Value} {base : Heap}
theorem sc_law : FnScope N_law P_law (defScope s_law) := ⟨rfl, rfl, rfl, by decide +kernel, rfl, by decide +kernel, by decide +kernel⟩
theorem ok_law (T : Txt K mg) : FnOk prg w K mg base (L2.CX prg w) 8 T.f_law T.fd_law P_law (spLaw K) := by
  refine Rz.Fun.okN T.F_law sc_law (fun vs H Q E h => ?_) (fun cdv A outer s H vs Q E hr h => ?_)
  · obtain ⟨a, ns, rfl, _⟩ := h
    rfl
  obtain ⟨a, ns, rfl, hS, hlen, k⟩ := h
  have nd := sc_law.nd
  refine ⟨_, (pss_cons (ps_set (i := 1) nd rfl (Or.inl rfl) (pe_fn (ok_law_pool T) (hr.mono (by decide)) (by rfl) T.m__law_pool T.F__law_pool.kp T.b__law_pool .nil (fun _ => atN _) (pa_cons (pv 0) pa_nil)))
    (pss_cons (ps_set (i := 2) nd rfl (Or.inl rfl) pe_str)
    (pss_cons (ps_set (i := 3) nd rfl (Or.inl rfl) (pe_fn (ok_law_word_of T) (hr.mono (by decide)) (by rfl) T.m__law_word_of T.F__law_word_of.kp T.b__law_word_of .nil (fun _ => atN _) (pa_cons (pv 1) (pa_cons (pv 2) (pa_cons pe_int (pa_cons pe_int pa_nil))))))
    (pss_cons (ps_set (i := 4) nd rfl (Or.inl rfl) (pe_fn (ok_law_word_of T) (hr.mono (by decide)) (by rfl) T.m__law_word_of T.F__law_word_of.kp T.b__law_word_of .nil (fun _ => atN _) (pa_cons (pv 1) (pa_cons (pv 2) (pa_cons pe_int (pa_cons pe_int pa_nil))))))
    (pss_cons (ps_set (i := 5) nd rfl (Or.inl rfl) (pe_fn (ok_law_pick T) (hr.mono (by decide)) (by rfl) T.m__law_pick T.F__law_pick.kp T.b__law_pick .nil (fun _ => atN _) (pa_cons (pv 1) (pa_cons pe_int pa_nil))))
    (C8.pss_cut (ps_if (pt_cmpR op_in_seq (pv 5) (pe_lst (pa_cons pe_int (pa_cons pe_int pa_nil))) rfl) (pss_one (ps_set (i := 3) nd rfl (Or.inl rfl) (pe_fn (ok_law_spoilt T) (hr.mono (by decide)) (by rfl) T.m__law_spoilt T.F__law_spoilt.kp T.b__law_spoilt .nil (fun _ => atN _) (pa_cons (pv 1) (pa_cons (pv 3) pa_nil))))) pss_nil)
    (C8.pss_cut (ps_if (pt_cmpR op_in_seq (pv 5) (pe_lst (pa_cons pe_int (pa_cons pe_int pa_nil))) rfl) (pss_one (ps_set (i := 4) nd rfl (Or.inl rfl) (pe_fn (ok_law_spoilt T) (hr.mono (by decide)) (by rfl) T.m__law_spoilt T.F__law_spoilt.kp T.b__law_spoilt .nil (fun _ => atN _) (pa_cons (pv 1) (pa_cons (pv 4) pa_nil))))) pss_nil)
    (pss_cons (ps_if (PW.pt (pw_or (pt_not (pt_val (pe_fn (ok_law_same T) (hr.mono (by decide)) (by rfl) T.m__law_same T.F__law_same.kp T.b__law_same .nil (fun _ => atN _) (pa_cons (pe_fn (ok_law_try_make T) (hr.mono (by decide)) (by rfl) T.m__law_try_make T.F__law_try_make.kp T.b__law_try_make .nil (fun _ => atN _) (pa_cons (pv 3) (pa_cons (pv 4) pa_nil))) (pa_cons (pv 3) (pa_cons (pv 4) pa_nil)))))) (pw_or1 (pt_not (pt_val (pe_fn (ok_law_same T) (hr.mono (by decide)) (by rfl) T.m__law_same T.F__law_same.kp T.b__law_same .nil (fun _ => atN _) (pa_cons (pe_fn (ok_law_made_short T) (hr.mono (by decide)) (by rfl) T.m__law_made_short T.F__law_made_short.kp T.b__law_made_short .nil (fun _ => atN _) (pa_cons (pv 3) pa_nil)) (pa_cons (pv 3) (pa_cons pe_str pa_nil))))))))) (pss_one (ps_ret pe_bl)) pss_nil)
    (pss_one (ps_ret (pe_and (pe_fn (ok_law_same T) (hr.mono (by decide)) (by rfl) T.m__law_same T.F__law_same.kp T.b__law_same .nil (fun _ => atN _) (pa_cons (pe_fn (ok_law_try_make T) (hr.mono (by decide)) (by rfl) T.m__law_try_make T.F__law_try_make.kp T.b__law_try_make .nil (fun _ => atN _) (pa_cons (pv 4) (pa_cons (pv 3) pa_nil))) (pa_cons (pv 4) (pa_cons (pv 3) pa_nil)))) (pe_one (pe_fn (ok_law_same T) (hr.mono (by decide)) (by rfl) T.m__law_same T.F__law_same.kp T.b__law_same .nil (fun _ => atN _) (pa_cons (pe_fn (ok_law_try_make T) (hr.mono (by decide)) (by rfl) T.m__law_try_make T.F__law_try_make.kp T.b__law_try_make .nil (fun _ => atN _) (pa_cons (pv 3) (pa_cons (pv 4) pa_nil))) (pa_cons (pv 3) (pa_cons (pv 4) pa_nil)))))))))))))))), ?_⟩
  refine ⟨_, rfl, a, ns, rfl, hS, hlen, fun H1 d S1 hd D1 => ?_⟩
  refine ⟨_, rfl, _, rfl, d, abc, 0, 6, rfl, by decide, by decide, by decide, by decide +kernel, by decide +kernel, D1, fun H2 l l0 l1 _ D2 B2 => ?_⟩
  refine ⟨_, rfl, _, rfl, d, abc, 0, 6, rfl, by decide, by decide, by decide, by decide +kernel, by decide +kernel, D2, fun H3 r r0 r1 _ D3 B3 => ?_⟩
  refine ⟨_, rfl, d, 6, rfl, by decide, D3, fun H4 kd k0 k1 D4 B4 => ?_⟩
  refine ⟨fun σ H' => ∃ l2 : Str, σ = [some (.ref a), some (.ref d), some (.str abc), some (.str l2), some (.str r), some (.int kd)] ∧ l2.length ≤ 100 ∧ Dr H' d, ?_, ?_⟩
  · refine ⟨_, rfl, by decide, fun p hp => ⟨p, _, rfl, .inl (SqL.of upd_same), rfl, rfl, _, rfl, ?_⟩⟩
    have D5 : Dr (upd H4 p (.lst [.int 1, .int 3])) d := D4.same (Rz.Same.new (Same.refl _) hp)
    refine ite2 (fun _ => ?_) (fun _ => ?_)
    · exact ⟨_, rfl, _, rfl, d, l, rfl, by omega, D5, fun H5 x hx D6 _ => ⟨x, rfl, by omega, D6⟩⟩
    · exact ⟨l, rfl, by omega, D5⟩
  rintro σ H5 ⟨l2, rfl, hl2, D5⟩
  refine ⟨fun σ H' => ∃ r2 : Str, σ = [some (.ref a), some (.ref d), some (.str abc), some (.str l2), some (.str r2), some (.int kd)] ∧ r2.length ≤ 100, ?_, ?_⟩
  · refine ⟨_, rfl, by decide, fun p hp => ⟨p, _, rfl, .inl (SqL.of upd_same), rfl, rfl, _, rfl, ?_⟩⟩
    have D6 : Dr (upd H5 p (.lst [.int 2, .int 3])) d := D5.same (Rz.Same.new (Same.refl _) hp)
    refine ite2 (fun _ => ?_) (fun _ => ?_)
    · exact ⟨_, rfl, _, rfl, d, r, rfl, by omega, D6, fun H7 x hx D7 _ => ⟨x, rfl, by omega⟩⟩
    · exact ⟨r, rfl, by omega⟩
  rintro σ H6 ⟨r2, rfl, hr2⟩
  refine ⟨_, rfl, _, rfl, l2, r2, rfl, by omega, by omega, fun H7 p7 S7 T7 => ⟨_, rfl, _, rfl, p7, l2, r2, rfl, by omega, by omega, T7, fun H8 S8 => ⟨true, rfl, ?_⟩⟩⟩
  refine iteF ⟨_, rfl, l2, rfl, by omega, fun H9 p9 S9 T9 => ⟨_, rfl, p9, l2, "", rfl, by omega, by decide, T9, fun H10 S10 => ⟨true, rfl, ?_⟩⟩⟩
  refine iteF ?_
  refine ⟨_, rfl, _, rfl, r2, l2, rfl, by omega, by omega, fun H11 p11 S11 T11 => ⟨_, rfl, _, rfl, p11, r2, l2, rfl, by omega, by omega, T11, fun H12 S12 => ⟨true, rfl, ?_⟩⟩⟩
  refine iteT ⟨_, rfl, _, rfl, l2, r2, rfl, by omega, by omega, fun H13 p13 S13 T13 => ⟨_, rfl, _, rfl, p13, l2, r2, rfl, by omega, by omega, T13, fun H14 S14 => k _⟩⟩
end
end Rz

namespace Rz
open PySem L2
theorem all_mk {w : World} {K : PySem.W.Frag} {h : Heap} {mg : Str → Option Value} {fa : Addr} (X : K.In h) (G : h.Ns mainGlobals mg) (hfa : mg "law" = some (.ref fa))
    {tk_SIGNS : Tok}
    {tk_MOST_SIGNS : Tok}
    {c_BadSign : Addr}
    {nm_BadSign q_BadSign : Str} {N_BadSign : Addr} {bs_BadSign bm_BadSign : List Value} {sn_BadSign : List Str} {sub_BadSign : List Value} {ab_BadSign : Bool} {col_BadSign : Option Bool} {dd_BadSign : Option Addr} {k0_BadSign k1_BadSign k2_BadSign k3_BadSign k5_BadSign : Option Value}
    {f_BadSign_init cc_BadSign_init cda_BadSign_init : Addr} {oc_BadSign_init kV_BadSign_init dc_BadSign_init pm_BadSign_init ct_BadSign_init ccl_BadSign_init cl_BadSign_init : Value} {od_BadSign_init an_BadSign_init cdd_BadSign_init cld_BadSign_init : Option Addr} {sl_BadSign_init cs_BadSign_init ls_BadSign_init : Array (Option Value)} {vs_BadSign_init : Array Value} {fl_BadSign_init : Str} {tf_BadSign_init : Tok}
    {c_BadRule : Addr}
    {c_Rule : Addr}
    {f_check_text : Addr} {oc_check_text kV_check_text dc_check_text pm_check_text cd_check_text ct_check_text : Value} {od_check_text an_check_text : Option Addr} {sl_check_text : Array (Option Value)}
    {f_Rule_init : Addr} {oc_Rule_init kV_Rule_init dc_Rule_init pm_Rule_init cd_Rule_init ct_Rule_init : Value} {od_Rule_init an_Rule_init : Option Addr} {sl_Rule_init : Array (Option Value)}
    {dT_Rule_init : Addr}
    {tk0_Rule_init : Tok}
    {uc_Rule_init : Value} {ud_Rule_init : Option Addr} {un_Rule_init : Nat} {us_Rule_init : Array (Option Value)}
    {f_Rule_str : Addr} {oc_Rule_str kV_Rule_str dc_Rule_str pm_Rule_str cd_Rule_str ct_Rule_str : Value} {od_Rule_str an_Rule_str : Option Addr} {sl_Rule_str : Array (Option Value)}
    {f__law_pool : Addr} {oc__law_pool kV__law_pool dc__law_pool pm__law_pool cd__law_pool ct__law_pool : Value} {od__law_pool an__law_pool : Option Addr} {sl__law_pool : Array (Option Value)}
    {f__law_pick : Addr} {oc__law_pick kV__law_pick dc__law_pick pm__law_pick cd__law_pick ct__law_pick : Value} {od__law_pick an__law_pick : Option Addr} {sl__law_pick : Array (Option Value)}
    {f__law_word_of : Addr} {oc__law_word_of kV__law_word_of dc__law_word_of pm__law_word_of cd__law_word_of ct__law_word_of : Value} {od__law_word_of an__law_word_of : Option Addr} {sl__law_word_of : Array (Option Value)}
    {f__law_is_int : Addr} {oc__law_is_int kV__law_is_int dc__law_is_int pm__law_is_int cd__law_is_int ct__law_is_int : Value} {od__law_is_int an__law_is_int : Option Addr} {sl__law_is_int : Array (Option Value)}
    {f__law_odd_sign : Addr} {oc__law_odd_sign kV__law_odd_sign dc__law_odd_sign pm__law_odd_sign cd__law_odd_sign ct__law_odd_sign : Value} {od__law_odd_sign an__law_odd_sign : Option Addr} {sl__law_odd_sign : Array (Option Value)}
    {f__law_first_odd : Addr} {oc__law_first_odd kV__law_first_odd dc__law_first_odd pm__law_first_odd cd__law_first_odd ct__law_first_odd : Value} {od__law_first_odd an__law_first_odd : Option Addr} {sl__law_first_odd : Array (Option Value)}
    {f__law_due_of : Addr} {oc__law_due_of kV__law_due_of dc__law_due_of pm__law_due_of cd__law_due_of ct__law_due_of : Value} {od__law_due_of an__law_due_of : Option Addr} {sl__law_due_of : Array (Option Value)}
    {f__law_same : Addr} {oc__law_same kV__law_same dc__law_same pm__law_same cd__law_same ct__law_same : Value} {od__law_same an__law_same : Option Addr} {sl__law_same : Array (Option Value)}
    {f__law_try_make : Addr} {oc__law_try_make kV__law_try_make dc__law_try_make pm__law_try_make cd__law_try_make ct__law_try_make : Value} {od__law_try_make an__law_try_make : Option Addr} {sl__law_try_make : Array (Option Value)}
    {f__law_made_short : Addr} {oc__law_made_short kV__law_made_short dc__law_made_short pm__law_made_short cd__law_made_short ct__law_made_short : Value} {od__law_made_short an__law_made_short : Option Addr} {sl__law_made_short : Array (Option Value)}
    {f__law_spoilt : Addr} {oc__law_spoilt kV__law_spoilt dc__law_spoilt pm__law_spoilt cd__law_spoilt ct__law_spoilt : Value} {od__law_spoilt an__law_spoilt : Option Addr} {sl__law_spoilt : Array (Option Value)}
    {f_law : Addr} {oc_law kV_law dc_law pm_law cd_law ct_law : Value} {od_law an_law : Option Addr} {sl_law : Array (Option Value)}
    (z_abs : PySem.W.nsIn K mainGlobals "abs" = some none)
    (z_bool : PySem.W.nsIn K mainGlobals "bool" = some none)
    (z_enumerate : PySem.W.nsIn K mainGlobals "enumerate" = some none)
    (z_int : PySem.W.nsIn K mainGlobals "int" = some none)
    (z_isinstance : PySem.W.nsIn K mainGlobals "isinstance" = some none)
    (z_len : PySem.W.nsIn K mainGlobals "len" = some none)
    (z_range : PySem.W.nsIn K mainGlobals "range" = some none)
    (z_str : PySem.W.nsIn K mainGlobals "str" = some none)
    (a_SIGNS : PySem.W.nsIn K mainGlobals "SIGNS" = some (some (.str "abcdefghijklmnopqrstuvwxyz" tk_SIGNS)))
    (a_MOST_SIGNS : PySem.W.nsIn K mainGlobals "MOST_SIGNS" = some (some (.int 4 tk_MOST_SIGNS)))
    (a_BadSign : PySem.W.nsIn K mainGlobals "BadSign" = some (some (.ref c_BadSign)))
    (l_BadSign : K.lookup c_BadSign = some (excClassObj nm_BadSign q_BadSign c_BadSign N_BadSign bs_BadSign bm_BadSign true sn_BadSign sub_BadSign ab_BadSign col_BadSign dd_BadSign k0_BadSign k1_BadSign k2_BadSign k3_BadSign k5_BadSign "ValueError.__new__"))
    (ve_BadSign : PySem.HandSPX.refsVE bm_BadSign = true)
    (sa_BadSign : PySem.W.findIn K (.ref c_BadSign) "__setattr__" = some (some (.builtin "object.__setattr__")))
    (eb_BadSign : PySem.W.subIn K (.ref c_BadSign) (.type "BaseException") = some true)
    (ev_BadSign : PySem.W.subIn K (.ref c_BadSign) (.type "ValueError") = some true)
    (ty_BadSign : PySem.W.typeIn K (.ref c_BadSign) = some (.type "type"))
    (kc_BadSign : PySem.W.keepIn K (.ref c_BadSign) = true)
    (ga_BadSign : PySem.W.findIn K (.ref c_BadSign) "__getattribute__" = some (some (.builtin "BaseException.__getattribute__")))
    (gg_BadSign : PySem.W.findIn K (.ref c_BadSign) "__getattr__" = some none)
    (nf_BadSign : PySem.W.findIn K (.ref c_BadSign) "at" = some none)
    (hd_BadSign : PySem.W.hasDictIn K c_BadSign = true)
    (mc_BadSign : PySem.W.mroIn K c_BadSign (.ref c_BadSign) = some true)
    (si_BadSign : PySem.W.ks_superIn K c_BadSign c_BadSign "__init__" = some (some (.builtin "ValueError.__init__")))
    (i_BadSign_init : PySem.W.findIn K (.ref c_BadSign) "__init__" = some (some (.ref f_BadSign_init)))
    (t_BadSign_init : PySem.W.typeIn K (.ref f_BadSign_init) = some (.type "function"))
    (l_BadSign_init : K.lookup f_BadSign_init = some ⟨oc_BadSign_init, od_BadSign_init, .func (PySem.W.ksFn "__init__" "BadSign.__init__" (defArgs s_BadSign_init) (defBody s_BadSign_init) (defScope s_BadSign_init) .none kV_BadSign_init dc_BadSign_init pm_BadSign_init an_BadSign_init (.ref cda_BadSign_init) ct_BadSign_init cc_BadSign_init), sl_BadSign_init⟩)
    (d_BadSign_init : PySem.W.codeIn K (.ref cda_BadSign_init) "BadSign.__init__" = true)
    (e_BadSign_init : K.lookup cda_BadSign_init = some ⟨ccl_BadSign_init, cdd_BadSign_init, .fields vs_BadSign_init, cs_BadSign_init⟩)
    (v_BadSign_init : vs_BadSign_init[2]? = some (.str fl_BadSign_init tf_BadSign_init))
    (g_BadSign_init : ((prg.main.file : Str) == fl_BadSign_init) = true)
    (h_BadSign_init : K.lookup cc_BadSign_init = some ⟨cl_BadSign_init, cld_BadSign_init, .cell (some (.ref c_BadSign)), ls_BadSign_init⟩)
    (em_BadSign_BadSign : PySem.W.exmOne K (.ref c_BadSign) (.ref c_BadSign) = some true)
    (a_BadRule : PySem.W.nsIn K mainGlobals "BadRule" = some (some (.ref c_BadRule)))
    (o_BadRule : PySem.W.excIn K c_BadRule [.type "ValueError", .type "Exception", .type "BaseException", .type "object"] "ValueError.__new__" = true)
    (kp_BadRule : PySem.W.keepIn K (.ref c_BadRule) = true)
    (r_BadRule : PySem.W.subIn K (.ref c_BadRule) (.type "BaseException") = some true)
    (t_BadRule : PySem.W.typeIn K (.ref c_BadRule) = some (.type "type"))
    (em_BadRule_BadSign : PySem.W.exmOne K (.ref c_BadRule) (.ref c_BadSign) = some false)
    (em_BadRule_BadRule : PySem.W.exmOne K (.ref c_BadRule) (.ref c_BadRule) = some true)
    (em_BadSign_BadRule : PySem.W.exmOne K (.ref c_BadSign) (.ref c_BadRule) = some false)
    (z_super : PySem.W.nsIn K mainGlobals "super" = some none)
    (ops : PySem.W.nsIn K cStatics "thirdparty.any" = some none)
    (a_Rule : PySem.W.nsIn K mainGlobals "Rule" = some (some (.ref c_Rule)))
    (pg_Rule : PySem.W.plainGet K c_Rule Str.empty = true)
    (hd_Rule : PySem.W.hasDictIn K c_Rule = true)
    (po_Rule : PySem.W.plainOver K c_Rule = true)
    (sa_Rule : PySem.W.findIn K (.ref c_Rule) "__setattr__" = some (some (.builtin "object.__setattr__")))
    (mk_Rule : PySem.W.makesIn K c_Rule = true)
    (kc_Rule : PySem.W.keepIn K (.ref c_Rule) = true)
    (j0_Rule : PySem.W.findIn K (.ref c_Rule) "__class__" = some (some (.builtin "object.__class__")))
    (j1_Rule : PySem.W.specialIn K (.builtin "object.__class__") "__get__" = some (some (.builtin "getset_descriptor.__get__")))
    (j2_Rule : PySem.W.takesIn K (.builtin "object.__class__") = some true)
    (j3_Rule : PySem.W.mroIn K c_Rule (.type "object") = some true)
    (j4_Rule : PySem.W.kitOne K (.ref c_Rule) (.ref c_Rule) = some true)
    (sf_Rule : PySem.W.selfFirst K c_Rule = true)
    (na_Rule_left : PySem.W.findIn K (.ref c_Rule) "left" = some none)
    (na_Rule_right : PySem.W.findIn K (.ref c_Rule) "right" = some none)
    (a_check_text : PySem.W.nsIn K mainGlobals "check_text" = some (some (.ref f_check_text)))
    (l_check_text : K.lookup f_check_text = some ⟨oc_check_text, od_check_text, .func (PySem.W.fnOf "check_text" "check_text" (defArgs s_check_text) (defBody s_check_text) (defScope s_check_text) .none kV_check_text dc_check_text pm_check_text an_check_text cd_check_text ct_check_text), sl_check_text⟩)
    (d_check_text : PySem.W.codeIn K cd_check_text "check_text" = true)
    (k_check_text : PySem.W.keepIn K (.ref f_check_text) = true)
    (a_Rule_init : PySem.W.findIn K (.ref c_Rule) "__init__" = some (some (.ref f_Rule_init)))
    (i_Rule_init : PySem.W.isFn K (.ref f_Rule_init) = true)
    (l_Rule_init : K.lookup f_Rule_init = some ⟨oc_Rule_init, od_Rule_init, .func (PySem.W.fnOf "__init__" "Rule.__init__" (defArgs s_Rule_init) (defBody s_Rule_init) (defScope s_Rule_init) (.ref dT_Rule_init) kV_Rule_init dc_Rule_init pm_Rule_init an_Rule_init cd_Rule_init ct_Rule_init), sl_Rule_init⟩)
    (d_Rule_init : PySem.W.codeIn K cd_Rule_init "Rule.__init__" = true)
    (k_Rule_init : PySem.W.keepIn K (.ref f_Rule_init) = true)
    (u_Rule_init : K.lookup dT_Rule_init = some ⟨uc_Rule_init, ud_Rule_init, .seq ([.str "" tk0_Rule_init] : List Value).toArray un_Rule_init, us_Rule_init⟩)
    (a_Rule_str : PySem.W.findIn K (.ref c_Rule) "__str__" = some (some (.ref f_Rule_str)))
    (i_Rule_str : PySem.W.isFn K (.ref f_Rule_str) = true)
    (l_Rule_str : K.lookup f_Rule_str = some ⟨oc_Rule_str, od_Rule_str, .func (PySem.W.fnOf "__str__" "Rule.__str__" (defArgs s_Rule_str) (defBody s_Rule_str) (defScope s_Rule_str) .none kV_Rule_str dc_Rule_str pm_Rule_str an_Rule_str cd_Rule_str ct_Rule_str), sl_Rule_str⟩)
    (d_Rule_str : PySem.W.codeIn K cd_Rule_str "Rule.__str__" = true)
    (k_Rule_str : PySem.W.keepIn K (.ref f_Rule_str) = true)
    (a__law_pool : PySem.W.nsIn K mainGlobals "_law_pool" = some (some (.ref f__law_pool)))
    (l__law_pool : K.lookup f__law_pool = some ⟨oc__law_pool, od__law_pool, .func (PySem.W.fnOf "_law_pool" "_law_pool" (defArgs s__law_pool) (defBody s__law_pool) (defScope s__law_pool) .none kV__law_pool dc__law_pool pm__law_pool an__law_pool cd__law_pool ct__law_pool), sl__law_pool⟩)
    (d__law_pool : PySem.W.codeIn K cd__law_pool "_law_pool" = true)
    (k__law_pool : PySem.W.keepIn K (.ref f__law_pool) = true)
    (a__law_pick : PySem.W.nsIn K mainGlobals "_law_pick" = some (some (.ref f__law_pick)))
    (l__law_pick : K.lookup f__law_pick = some ⟨oc__law_pick, od__law_pick, .func (PySem.W.fnOf "_law_pick" "_law_pick" (defArgs s__law_pick) (defBody s__law_pick) (defScope s__law_pick) .none kV__law_pick dc__law_pick pm__law_pick an__law_pick cd__law_pick ct__law_pick), sl__law_pick⟩)
    (d__law_pick : PySem.W.codeIn K cd__law_pick "_law_pick" = true)
    (k__law_pick : PySem.W.keepIn K (.ref f__law_pick) = true)
    (a__law_word_of : PySem.W.nsIn K mainGlobals "_law_word_of" = some (some (.ref f__law_word_of)))
    (l__law_word_of : K.lookup f__law_word_of = some ⟨oc__law_word_of, od__law_word_of, .func (PySem.W.fnOf "_law_word_of" "_law_word_of" (defArgs s__law_word_of) (defBody s__law_word_of) (defScope s__law_word_of) .none kV__law_word_of dc__law_word_of pm__law_word_of an__law_word_of cd__law_word_of ct__law_word_of), sl__law_word_of⟩)
    (d__law_word_of : PySem.W.codeIn K cd__law_word_of "_law_word_of" = true)
    (k__law_word_of : PySem.W.keepIn K (.ref f__law_word_of) = true)
    (a__law_is_int : PySem.W.nsIn K mainGlobals "_law_is_int" = some (some (.ref f__law_is_int)))
    (l__law_is_int : K.lookup f__law_is_int = some ⟨oc__law_is_int, od__law_is_int, .func (PySem.W.fnOf "_law_is_int" "_law_is_int" (defArgs s__law_is_int) (defBody s__law_is_int) (defScope s__law_is_int) .none kV__law_is_int dc__law_is_int pm__law_is_int an__law_is_int cd__law_is_int ct__law_is_int), sl__law_is_int⟩)
    (d__law_is_int : PySem.W.codeIn K cd__law_is_int "_law_is_int" = true)
    (k__law_is_int : PySem.W.keepIn K (.ref f__law_is_int) = true)
    (a__law_odd_sign : PySem.W.nsIn K mainGlobals "_law_odd_sign" = some (some (.ref f__law_odd_sign)))
    (l__law_odd_sign : K.lookup f__law_odd_sign = some ⟨oc__law_odd_sign, od__law_odd_sign, .func (PySem.W.fnOf "_law_odd_sign" "_law_odd_sign" (defArgs s__law_odd_sign) (defBody s__law_odd_sign) (defScope s__law_odd_sign) .none kV__law_odd_sign dc__law_odd_sign pm__law_odd_sign an__law_odd_sign cd__law_odd_sign ct__law_odd_sign), sl__law_odd_sign⟩)
    (d__law_odd_sign : PySem.W.codeIn K cd__law_odd_sign "_law_odd_sign" = true)
    (k__law_odd_sign : PySem.W.keepIn K (.ref f__law_odd_sign) = true)
    (a__law_first_odd : PySem.W.nsIn K mainGlobals "_law_first_odd" = some (some (.ref f__law_first_odd)))
    (l__law_first_odd : K.lookup f__law_first_odd = some ⟨oc__law_first_odd, od__law_first_odd, .func (PySem.W.fnOf "_law_first_odd" "_law_first_odd" (defArgs s__law_first_odd) (defBody s__law_first_odd) (defScope s__law_first_odd) .none kV__law_first_odd dc__law_first_odd pm__law_first_odd an__law_first_odd cd__law_first_odd ct__law_first_odd), sl__law_first_odd⟩)
    (d__law_first_odd : PySem.W.codeIn K cd__law_first_odd "_law_first_odd" = true)
    (k__law_first_odd : PySem.W.keepIn K (.ref f__law_first_odd) = true)
    (a__law_due_of : PySem.W.nsIn K mainGlobals "_law_due_of" = some (some (.ref f__law_due_of)))
    (l__law_due_of : K.lookup f__law_due_of = some ⟨oc__law_due_of, od__law_due_of, .func (PySem.W.fnOf "_law_due_of" "_law_due_of" (defArgs s__law_due_of) (defBody s__law_due_of) (defScope s__law_due_of) .none kV__law_due_of dc__law_due_of pm__law_due_of an__law_due_of cd__law_due_of ct__law_due_of), sl__law_due_of⟩)
    (d__law_due_of : PySem.W.codeIn K cd__law_due_of "_law_due_of" = true)
    (k__law_due_of : PySem.W.keepIn K (.ref f__law_due_of) = true)
    (a__law_same : PySem.W.nsIn K mainGlobals "_law_same" = some (some (.ref f__law_same)))
    (l__law_same : K.lookup f__law_same = some ⟨oc__law_same, od__law_same, .func (PySem.W.fnOf "_law_same" "_law_same" (defArgs s__law_same) (defBody s__law_same) (defScope s__law_same) .none kV__law_same dc__law_same pm__law_same an__law_same cd__law_same ct__law_same), sl__law_same⟩)
    (d__law_same : PySem.W.codeIn K cd__law_same "_law_same" = true)
    (k__law_same : PySem.W.keepIn K (.ref f__law_same) = true)
    (a__law_try_make : PySem.W.nsIn K mainGlobals "_law_try_make" = some (some (.ref f__law_try_make)))
    (l__law_try_make : K.lookup f__law_try_make = some ⟨oc__law_try_make, od__law_try_make, .func (PySem.W.fnOf "_law_try_make" "_law_try_make" (defArgs s__law_try_make) (defBody s__law_try_make) (defScope s__law_try_make) .none kV__law_try_make dc__law_try_make pm__law_try_make an__law_try_make cd__law_try_make ct__law_try_make), sl__law_try_make⟩)
    (d__law_try_make : PySem.W.codeIn K cd__law_try_make "_law_try_make" = true)
    (k__law_try_make : PySem.W.keepIn K (.ref f__law_try_make) = true)
    (a__law_made_short : PySem.W.nsIn K mainGlobals "_law_made_short" = some (some (.ref f__law_made_short)))
    (l__law_made_short : K.lookup f__law_made_short = some ⟨oc__law_made_short, od__law_made_short, .func (PySem.W.fnOf "_law_made_short" "_law_made_short" (defArgs s__law_made_short) (defBody s__law_made_short) (defScope s__law_made_short) .none kV__law_made_short dc__law_made_short pm__law_made_short an__law_made_short cd__law_made_short ct__law_made_short), sl__law_made_short⟩)
    (d__law_made_short : PySem.W.codeIn K cd__law_made_short "_law_made_short" = true)
    (k__law_made_short : PySem.W.keepIn K (.ref f__law_made_short) = true)
    (a__law_spoilt : PySem.W.nsIn K mainGlobals "_law_spoilt" = some (some (.ref f__law_spoilt)))
    (l__law_spoilt : K.lookup f__law_spoilt = some ⟨oc__law_spoilt, od__law_spoilt, .func (PySem.W.fnOf "_law_spoilt" "_law_spoilt" (defArgs s__law_spoilt) (defBody s__law_spoilt) (defScope s__law_spoilt) .none kV__law_spoilt dc__law_spoilt pm__law_spoilt an__law_spoilt cd__law_spoilt ct__law_spoilt), sl__law_spoilt⟩)
    (d__law_spoilt : PySem.W.codeIn K cd__law_spoilt "_law_spoilt" = true)
    (k__law_spoilt : PySem.W.keepIn K (.ref f__law_spoilt) = true)
    (a_law : PySem.W.nsIn K mainGlobals "law" = some (some (.ref f_law)))
    (l_law : K.lookup f_law = some ⟨oc_law, od_law, .func (PySem.W.fnOf "law" "law" (defArgs s_law) (defBody s_law) (defScope s_law) .none kV_law dc_law pm_law an_law cd_law ct_law), sl_law⟩)
    (d_law : PySem.W.codeIn K cd_law "law" = true)
    (k_law : PySem.W.keepIn K (.ref f_law) = true)
    : ∃ fd : FuncData, (∀ (s : Shared) (u : Value), BindsTo s fd ⟨[u], []⟩ [("_law_script", u)]) ∧ ∀ base : Heap, K.In base → base.Ns mainGlobals mg → FnOk prg w K mg base (L2.CX prg w) 8 fa fd ["_law_script"] (spLaw K) := by
  have e := hfa.symm.trans (PySem.W.mg_of X G a_law)
  have e2 : f_law = fa := by cases e; rfl
  subst e2
  let T : Txt K mg := {
    n_abs := PySem.W.mg_none_of X G z_abs
    n_bool := PySem.W.mg_none_of X G z_bool
    n_enumerate := PySem.W.mg_none_of X G z_enumerate
    n_int := PySem.W.mg_none_of X G z_int
    n_isinstance := PySem.W.mg_none_of X G z_isinstance
    n_len := PySem.W.mg_none_of X G z_len
    n_range := PySem.W.mg_none_of X G z_range
    n_str := PySem.W.mg_none_of X G z_str
    k_SIGNS := ⟨_, PySem.W.mg_of X G a_SIGNS⟩
    k_MOST_SIGNS := ⟨_, PySem.W.mg_of X G a_MOST_SIGNS⟩
    c_BadSign := c_BadSign
    m_BadSign := PySem.W.mg_of X G a_BadSign
    o_BadSign := ⟨⟨nm_BadSign, q_BadSign, N_BadSign, bs_BadSign, bm_BadSign, sn_BadSign, sub_BadSign, ab_BadSign, col_BadSign, dd_BadSign, k0_BadSign, k1_BadSign, k2_BadSign, k3_BadSign, k5_BadSign, l_BadSign, ve_BadSign⟩, sa_BadSign, eb_BadSign, ty_BadSign, kc_BadSign⟩
    x_BadSign := ⟨⟨ga_BadSign, gg_BadSign, eb_BadSign, hd_BadSign⟩, nf_BadSign⟩
    f_BadSign_init := f_BadSign_init
    fd_BadSign_init := _
    i_BadSign := i_BadSign_init
    t_BadSign := t_BadSign_init
    F_BadSign_init := ⟨⟨_, _, _, _, _, _, _, _, _, _, _, _, _, _, _, _, _, _, _, _, rfl, l_BadSign_init, d_BadSign_init, e_BadSign_init, v_BadSign_init, g_BadSign_init, h_BadSign_init⟩, ops, PySem.W.mg_none_of X G z_super, si_BadSign, ev_BadSign, mc_BadSign, nf_BadSign, by rfl⟩
    b_BadSign_init := .all fun us hl => match us, hl with | [_, _], _ => rfl
    em_BadSign_BadSign := em_BadSign_BadSign
    c_BadRule := c_BadRule
    m_BadRule := PySem.W.mg_of X G a_BadRule
    o_BadRule := o_BadRule
    kp_BadRule := kp_BadRule
    r_BadRule := r_BadRule
    t_BadRule := t_BadRule
    em_BadRule_BadSign := em_BadRule_BadSign
    em_BadRule_BadRule := em_BadRule_BadRule
    em_BadSign_BadRule := em_BadSign_BadRule
    c_Rule := c_Rule
    m_Rule := PySem.W.mg_of X G a_Rule
    cl_Rule := ⟨pg_Rule, hd_Rule, po_Rule, sa_Rule⟩
    mk_Rule := mk_Rule
    kp_Rule := kc_Rule
    is_Rule := ⟨⟨pg_Rule, hd_Rule, po_Rule, sa_Rule⟩, j0_Rule, j1_Rule, j2_Rule, j3_Rule, j4_Rule⟩
    sf_Rule := sf_Rule
    na_Rule_left := na_Rule_left
    na_Rule_right := na_Rule_right
    f_check_text := f_check_text
    fd_check_text := PySem.W.fnOf "check_text" "check_text" (defArgs s_check_text) (defBody s_check_text) (defScope s_check_text) .none kV_check_text dc_check_text pm_check_text an_check_text cd_check_text ct_check_text
    F_check_text := fun_mk (st := s_check_text) l_check_text d_check_text k_check_text
    b_check_text := (fun_mk (st := s_check_text) l_check_text d_check_text k_check_text).binds (ps := P_check_text) fun _ _ _ _ _ _ us hl => match us, hl with | [_], _ => rfl
    m_check_text := PySem.W.mg_of X G a_check_text
    f_Rule_init := f_Rule_init
    fd_Rule_init := PySem.W.fnOf "__init__" "Rule.__init__" (defArgs s_Rule_init) (defBody s_Rule_init) (defScope s_Rule_init) (.ref dT_Rule_init) kV_Rule_init dc_Rule_init pm_Rule_init an_Rule_init cd_Rule_init ct_Rule_init
    D_Rule_init := ⟨⟨_, _, _, _, _, _, _, _, _, _, rfl, l_Rule_init, d_Rule_init, .inr ⟨by simp, dT_Rule_init, _, _, un_Rule_init, rfl, u_Rule_init, rfl, .cons ⟨_, rfl⟩ (.nil)⟩, .inl rfl⟩, k_Rule_init⟩
    kp_Rule_init := k_Rule_init
    M_Rule_init := ⟨a_Rule_init, i_Rule_init, k_Rule_init⟩
    f_Rule_str := f_Rule_str
    fd_Rule_str := PySem.W.fnOf "__str__" "Rule.__str__" (defArgs s_Rule_str) (defBody s_Rule_str) (defScope s_Rule_str) .none kV_Rule_str dc_Rule_str pm_Rule_str an_Rule_str cd_Rule_str ct_Rule_str
    F_Rule_str := fun_mk (st := s_Rule_str) l_Rule_str d_Rule_str k_Rule_str
    b_Rule_str := (fun_mk (st := s_Rule_str) l_Rule_str d_Rule_str k_Rule_str).binds (ps := P_Rule_str) fun _ _ _ _ _ _ us hl => match us, hl with | [_], _ => rfl
    M_Rule_str := ⟨a_Rule_str, i_Rule_str, k_Rule_str⟩
    f__law_pool := f__law_pool
    fd__law_pool := PySem.W.fnOf "_law_pool" "_law_pool" (defArgs s__law_pool) (defBody s__law_pool) (defScope s__law_pool) .none kV__law_pool dc__law_pool pm__law_pool an__law_pool cd__law_pool ct__law_pool
    F__law_pool := fun_mk (st := s__law_pool) l__law_pool d__law_pool k__law_pool
    b__law_pool := (fun_mk (st := s__law_pool) l__law_pool d__law_pool k__law_pool).binds (ps := P__law_pool) fun _ _ _ _ _ _ us hl => match us, hl with | [_], _ => rfl
    m__law_pool := PySem.W.mg_of X G a__law_pool
    f__law_pick := f__law_pick
    fd__law_pick := PySem.W.fnOf "_law_pick" "_law_pick" (defArgs s__law_pick) (defBody s__law_pick) (defScope s__law_pick) .none kV__law_pick dc__law_pick pm__law_pick an__law_pick cd__law_pick ct__law_pick
    F__law_pick := fun_mk (st := s__law_pick) l__law_pick d__law_pick k__law_pick
    b__law_pick := (fun_mk (st := s__law_pick) l__law_pick d__law_pick k__law_pick).binds (ps := P__law_pick) fun _ _ _ _ _ _ us hl => match us, hl with | [_, _], _ => rfl
    m__law_pick := PySem.W.mg_of X G a__law_pick
    f__law_word_of := f__law_word_of
    fd__law_word_of := PySem.W.fnOf "_law_word_of" "_law_word_of" (defArgs s__law_word_of) (defBody s__law_word_of) (defScope s__law_word_of) .none kV__law_word_of dc__law_word_of pm__law_word_of an__law_word_of cd__law_word_of ct__law_word_of
    F__law_word_of := fun_mk (st := s__law_word_of) l__law_word_of d__law_word_of k__law_word_of
    b__law_word_of := (fun_mk (st := s__law_word_of) l__law_word_of d__law_word_of k__law_word_of).binds (ps := P__law_word_of) fun _ _ _ _ _ _ us hl => match us, hl with | [_, _, _, _], _ => rfl
    m__law_word_of := PySem.W.mg_of X G a__law_word_of
    f__law_is_int := f__law_is_int
    fd__law_is_int := PySem.W.fnOf "_law_is_int" "_law_is_int" (defArgs s__law_is_int) (defBody s__law_is_int) (defScope s__law_is_int) .none kV__law_is_int dc__law_is_int pm__law_is_int an__law_is_int cd__law_is_int ct__law_is_int
    F__law_is_int := fun_mk (st := s__law_is_int) l__law_is_int d__law_is_int k__law_is_int
    b__law_is_int := (fun_mk (st := s__law_is_int) l__law_is_int d__law_is_int k__law_is_int).binds (ps := P__law_is_int) fun _ _ _ _ _ _ us hl => match us, hl with | [_], _ => rfl
    m__law_is_int := PySem.W.mg_of X G a__law_is_int
    f__law_odd_sign := f__law_odd_sign
    fd__law_odd_sign := PySem.W.fnOf "_law_odd_sign" "_law_odd_sign" (defArgs s__law_odd_sign) (defBody s__law_odd_sign) (defScope s__law_odd_sign) .none kV__law_odd_sign dc__law_odd_sign pm__law_odd_sign an__law_odd_sign cd__law_odd_sign ct__law_odd_sign
    F__law_odd_sign := fun_mk (st := s__law_odd_sign) l__law_odd_sign d__law_odd_sign k__law_odd_sign
    b__law_odd_sign := (fun_mk (st := s__law_odd_sign) l__law_odd_sign d__law_odd_sign k__law_odd_sign).binds (ps := P__law_odd_sign) fun _ _ _ _ _ _ us hl => match us, hl with | [_], _ => rfl
    m__law_odd_sign := PySem.W.mg_of X G a__law_odd_sign
    f__law_first_odd := f__law_first_odd
    fd__law_first_odd := PySem.W.fnOf "_law_first_odd" "_law_first_odd" (defArgs s__law_first_odd) (defBody s__law_first_odd) (defScope s__law_first_odd) .none kV__law_first_odd dc__law_first_odd pm__law_first_odd an__law_first_odd cd__law_first_odd ct__law_first_odd
    F__law_first_odd := fun_mk (st := s__law_first_odd) l__law_first_odd d__law_first_odd k__law_first_odd
    b__law_first_odd := (fun_mk (st := s__law_first_odd) l__law_first_odd d__law_first_odd k__law_first_odd).binds (ps := P__law_first_odd) fun _ _ _ _ _ _ us hl => match us, hl with | [_], _ => rfl
    m__law_first_odd := PySem.W.mg_of X G a__law_first_odd
    f__law_due_of := f__law_due_of
    fd__law_due_of := PySem.W.fnOf "_law_due_of" "_law_due_of" (defArgs s__law_due_of) (defBody s__law_due_of) (defScope s__law_due_of) .none kV__law_due_of dc__law_due_of pm__law_due_of an__law_due_of cd__law_due_of ct__law_due_of
    F__law_due_of := fun_mk (st := s__law_due_of) l__law_due_of d__law_due_of k__law_due_of
    b__law_due_of := (fun_mk (st := s__law_due_of) l__law_due_of d__law_due_of k__law_due_of).binds (ps := P__law_due_of) fun _ _ _ _ _ _ us hl => match us, hl with | [_, _], _ => rfl
    m__law_due_of := PySem.W.mg_of X G a__law_due_of
    f__law_same := f__law_same
    fd__law_same := PySem.W.fnOf "_law_same" "_law_same" (defArgs s__law_same) (defBody s__law_same) (defScope s__law_same) .none kV__law_same dc__law_same pm__law_same an__law_same cd__law_same ct__law_same
    F__law_same := fun_mk (st := s__law_same) l__law_same d__law_same k__law_same
    b__law_same := (fun_mk (st := s__law_same) l__law_same d__law_same k__law_same).binds (ps := P__law_same) fun _ _ _ _ _ _ us hl => match us, hl with | [_, _, _], _ => rfl
    m__law_same := PySem.W.mg_of X G a__law_same
    f__law_try_make := f__law_try_make
    fd__law_try_make := PySem.W.fnOf "_law_try_make" "_law_try_make" (defArgs s__law_try_make) (defBody s__law_try_make) (defScope s__law_try_make) .none kV__law_try_make dc__law_try_make pm__law_try_make an__law_try_make cd__law_try_make ct__law_try_make
    F__law_try_make := fun_mk (st := s__law_try_make) l__law_try_make d__law_try_make k__law_try_make
    b__law_try_make := (fun_mk (st := s__law_try_make) l__law_try_make d__law_try_make k__law_try_make).binds (ps := P__law_try_make) fun _ _ _ _ _ _ us hl => match us, hl with | [_, _], _ => rfl
    m__law_try_make := PySem.W.mg_of X G a__law_try_make
    f__law_made_short := f__law_made_short
    fd__law_made_short := PySem.W.fnOf "_law_made_short" "_law_made_short" (defArgs s__law_made_short) (defBody s__law_made_short) (defScope s__law_made_short) .none kV__law_made_short dc__law_made_short pm__law_made_short an__law_made_short cd__law_made_short ct__law_made_short
    F__law_made_short := fun_mk (st := s__law_made_short) l__law_made_short d__law_made_short k__law_made_short
    b__law_made_short := (fun_mk (st := s__law_made_short) l__law_made_short d__law_made_short k__law_made_short).binds (ps := P__law_made_short) fun _ _ _ _ _ _ us hl => match us, hl with | [_], _ => rfl
    m__law_made_short := PySem.W.mg_of X G a__law_made_short
    f__law_spoilt := f__law_spoilt
    fd__law_spoilt := PySem.W.fnOf "_law_spoilt" "_law_spoilt" (defArgs s__law_spoilt) (defBody s__law_spoilt) (defScope s__law_spoilt) .none kV__law_spoilt dc__law_spoilt pm__law_spoilt an__law_spoilt cd__law_spoilt ct__law_spoilt
    F__law_spoilt := fun_mk (st := s__law_spoilt) l__law_spoilt d__law_spoilt k__law_spoilt
    b__law_spoilt := (fun_mk (st := s__law_spoilt) l__law_spoilt d__law_spoilt k__law_spoilt).binds (ps := P__law_spoilt) fun _ _ _ _ _ _ us hl => match us, hl with | [_, _], _ => rfl
    m__law_spoilt := PySem.W.mg_of X G a__law_spoilt
    f_law := f_law
    fd_law := PySem.W.fnOf "law" "law" (defArgs s_law) (defBody s_law) (defScope s_law) .none kV_law dc_law pm_law an_law cd_law ct_law
    F_law := fun_mk (st := s_law) l_law d_law k_law
    b_law := (fun_mk (st := s_law) l_law d_law k_law).binds (ps := P_law) fun _ _ _ _ _ _ us hl => match us, hl with | [_], _ => rfl
    m_law := PySem.W.mg_of X G a_law
  }
  exact ⟨T.fd_law, fun s v => .of_eq rfl, fun base _ _ => ok_law T⟩
theorem walk {l : PySem.W.OpenLaw} {q : Program} {loose : List Str} {XP : (Str → Option Value) → Heap → Prop} {YP : World → Heap → Prop} {d : DefRec} {K : Params → PySem.W.Frag} (hn : l.most = some 63) (hdf : d.params.defaults = []) (hp : l.prog = prg)
    (hY : ∀ (w : World) (h : Heap), YP w h → (K w.params).In h)
    (F : ∀ (w : World) (mg : Str → Option Value) (fa : Addr) (h : Heap), (K w.params).In h → h.Ns mainGlobals mg → mg d.name = some (.ref fa) →
      ∃ fd : FuncData, (∀ (s : Shared) (u : Value), BindsTo s fd ⟨[u], []⟩ [("_law_script", u)]) ∧ ∀ base : Heap, (K w.params).In base → base.Ns mainGlobals mg → FnOk prg w (K w.params) mg base (L2.CX prg w) 8 fa fd ["_law_script"] (spLaw (K w.params))) :
    PySem.W.WalkO q loose XP YP l.row.toRowW d [] (fun f vs => PySem.call f vs) :=
  L2.walk_of (n := 63) (k := 8) (x := "_law_script") (CX := fun w => L2.CX prg w) (sp := fun w => spLaw (K w.params)) hn (by decide) hdf ⟨rfl, by decide, by decide⟩ hY (by rw [hp]; exact F) (fun _ _ a ns hl _ hS => ⟨a, ns, rfl, hS, hl, fun _ => rfl⟩) fun w H s e s' z => no_cx w H s e s' z
end Rz
open PySem PySem.W PyProof.Rows in
set_option maxRecDepth 100000 in
set_option maxHeartbeats 0 in
theorem PySem.Challenge.cw_risensigns_k08_rule_refused_holds : PySem.Challenge.rw_risensigns_k08_rule_refused.Holds := by
  w_on; o_law; k_head; (case hw => w_witness2)
  k_fill
  refine Rz.walk (l := PySem.Challenge.rw_risensigns_k08_rule_refused) rfl rfl rfl (fun w h Y => PySem.W.kIn_of Y) ?F
  case F =>
    intro w mg fa h KX G hmg
    refine' Rz.all_mk KX G hmg ?z_abs ?z_bool ?z_enumerate ?z_int ?z_isinstance ?z_len ?z_range ?z_str ?a_SIGNS ?a_MOST_SIGNS ?a_BadSign ?l_BadSign ?ve_BadSign ?sa_BadSign ?eb_BadSign ?ev_BadSign ?ty_BadSign ?kc_BadSign ?ga_BadSign ?gg_BadSign ?nf_BadSign ?hd_BadSign ?mc_BadSign ?si_BadSign ?i_BadSign_init ?t_BadSign_init ?l_BadSign_init ?d_BadSign_init ?e_BadSign_init ?v_BadSign_init ?g_BadSign_init ?h_BadSign_init ?em_BadSign_BadSign ?a_BadRule ?o_BadRule ?kp_BadRule ?r_BadRule ?t_BadRule ?em_BadRule_BadSign ?em_BadRule_BadRule ?em_BadSign_BadRule ?z_super ?ops ?a_Rule ?pg_Rule ?hd_Rule ?po_Rule ?sa_Rule ?mk_Rule ?kc_Rule ?j0_Rule ?j1_Rule ?j2_Rule ?j3_Rule ?j4_Rule ?sf_Rule ?na_Rule_left ?na_Rule_right ?a_check_text ?l_check_text ?d_check_text ?k_check_text ?a_Rule_init ?i_Rule_init ?l_Rule_init ?d_Rule_init ?k_Rule_init ?u_Rule_init ?a_Rule_str ?i_Rule_str ?l_Rule_str ?d_Rule_str ?k_Rule_str ?a__law_pool ?l__law_pool ?d__law_pool ?k__law_pool ?a__law_pick ?l__law_pick ?d__law_pick ?k__law_pick ?a__law_word_of ?l__law_word_of ?d__law_word_of ?k__law_word_of ?a__law_is_int ?l__law_is_int ?d__law_is_int ?k__law_is_int ?a__law_odd_sign ?l__law_odd_sign ?d__law_odd_sign ?k__law_odd_sign ?a__law_first_odd ?l__law_first_odd ?d__law_first_odd ?k__law_first_odd ?a__law_due_of ?l__law_due_of ?d__law_due_of ?k__law_due_of ?a__law_same ?l__law_same ?d__law_same ?k__law_same ?a__law_try_make ?l__law_try_make ?d__law_try_make ?k__law_try_make ?a__law_made_short ?l__law_made_short ?d__law_made_short ?k__law_made_short ?a__law_spoilt ?l__law_spoilt ?d__law_spoilt ?k__law_spoilt ?a_law ?l_law ?d_law ?k_law
    (case z_abs => k_is)
    (case z_bool => k_is)
    (case z_enumerate => k_is)
    (case z_int => k_is)
    (case z_isinstance => k_is)
    (case z_len => k_is)
    (case z_range => k_is)
    (case z_str => k_is)
    (case a_SIGNS => k_is)
    (case a_MOST_SIGNS => k_is)
    (case a_BadSign => k_is)
    (case l_BadSign => k_is)
    (case ve_BadSign => first | rfl | kernel_rfl | decide +kernel)
    (case sa_BadSign => k_is)
    (case eb_BadSign => k_is)
    (case ev_BadSign => k_is)
    (case ty_BadSign => k_is)
    (case kc_BadSign => k_is)
    (case ga_BadSign => k_is)
    (case gg_BadSign => k_is)
    (case nf_BadSign => k_is)
    (case hd_BadSign => k_is)
    (case mc_BadSign => k_is)
    (case si_BadSign => first | rfl | kernel_rfl | decide +kernel)
    (case i_BadSign_init => k_is)
    (case t_BadSign_init => k_is)
    (case l_BadSign_init => k_is)
    (case d_BadSign_init => k_is)
    (case e_BadSign_init => k_is)
    (case v_BadSign_init => rfl)
    (case g_BadSign_init => first | rfl | kernel_rfl | decide +kernel)
    (case h_BadSign_init => k_is)
    (case em_BadSign_BadSign => first | rfl | kernel_rfl | decide +kernel)
    (case a_BadRule => k_is)
    (case o_BadRule => k_exc)
    (case kp_BadRule => k_is)
    (case r_BadRule => k_is)
    (case t_BadRule => k_is)
    (case em_BadRule_BadSign => first | rfl | kernel_rfl | decide +kernel)
    (case em_BadRule_BadRule => first | rfl | kernel_rfl | decide +kernel)
    (case em_BadSign_BadRule => first | rfl | kernel_rfl | decide +kernel)
    (case z_super => k_is)
    (case ops => k_is)
    (case a_Rule => k_is)
    (case pg_Rule => k_is)
    (case hd_Rule => k_is)
    (case po_Rule => k_is)
    (case sa_Rule => k_is)
    (case mk_Rule => k_is)
    (case kc_Rule => k_is)
    (case j0_Rule => k_is)
    (case j1_Rule => k_is)
    (case j2_Rule => k_is)
    (case j3_Rule => k_is)
    (case j4_Rule => first | rfl | kernel_rfl | decide +kernel)
    (case sf_Rule => k_is)
    (case na_Rule_left => k_is)
    (case na_Rule_right => k_is)
    (case a_check_text => k_is)
    (case l_check_text => k_is)
    (case d_check_text => k_is)
    (case k_check_text => k_is)
    (case a_Rule_init => k_is)
    (case i_Rule_init => k_is)
    (case l_Rule_init => k_is)
    (case d_Rule_init => k_is)
    (case k_Rule_init => k_is)
    (case u_Rule_init => k_is)
    (case a_Rule_str => k_is)
    (case i_Rule_str => k_is)
    (case l_Rule_str => k_is)
    (case d_Rule_str => k_is)
    (case k_Rule_str => k_is)
    (case a__law_pool => k_is)
    (case l__law_pool => k_is)
    (case d__law_pool => k_is)
    (case k__law_pool => k_is)
    (case a__law_pick => k_is)
    (case l__law_pick => k_is)
    (case d__law_pick => k_is)
    (case k__law_pick => k_is)
    (case a__law_word_of => k_is)
    (case l__law_word_of => k_is)
    (case d__law_word_of => k_is)
    (case k__law_word_of => k_is)
    (case a__law_is_int => k_is)
    (case l__law_is_int => k_is)
    (case d__law_is_int => k_is)
    (case k__law_is_int => k_is)
    (case a__law_odd_sign => k_is)
    (case l__law_odd_sign => k_is)
    (case d__law_odd_sign => k_is)
    (case k__law_odd_sign => k_is)
    (case a__law_first_odd => k_is)
    (case l__law_first_odd => k_is)
    (case d__law_first_odd => k_is)
    (case k__law_first_odd => k_is)
    (case a__law_due_of => k_is)
    (case l__law_due_of => k_is)
    (case d__law_due_of => k_is)
    (case k__law_due_of => k_is)
    (case a__law_same => k_is)
    (case l__law_same => k_is)
    (case d__law_same => k_is)
    (case k__law_same => k_is)
    (case a__law_try_make => k_is)
    (case l__law_try_make => k_is)
    (case d__law_try_make => k_is)
    (case k__law_try_make => k_is)
    (case a__law_made_short => k_is)
    (case l__law_made_short => k_is)
    (case d__law_made_short => k_is)
    (case k__law_made_short => k_is)
    (case a__law_spoilt => k_is)
    (case l__law_spoilt => k_is)
    (case d__law_spoilt => k_is)
    (case k__law_spoilt => k_is)
    (case a_law => k_is)
    (case l_law => k_is)
    (case d_law => k_is)
    (case k_law => k_is)
#print axioms PySem.Challenge.cw_risensigns_k08_rule_refused_holds
