import PyProof.Rows.All
import Wide.All
import OpenK.AllK
import Wide.FinOn
import KE.KExcSuper
import KE.GoesEnum
import HandS.ForMost
import HandS.ForExc
import HandS.ExcInit
import HandS.ExcField
import HandS.TryMany
import HandS.Walk
import HandS.Defaults
import HandS.Property
import HandS.IsInst
import HandS.Codes
import HandS.FStr
import KE.KCallOwn
import KE.KDictZip
import KE.GoesZip
import KE.GoesMore
import HandS.ListItems
import HandS.Zip
import KE.KOpsOwn
import KE.KOwnIter
import HandS.IterNext
import HandS.SortKw
import PyProof.WalkInts
import HandS.More
import HandS.Star
import HandS.StrMore
import PySem.Challenge.RW_risensigns_k07_rule_step
set_option Elab.async false
set_option linter.all false
set_option maxRecDepth 100000
set_option maxHeartbeats 4000000
namespace Rz
open PySem PySem.Spec PyProof.Rows L2

theorem one_lookup {x k : Str} {a c : Addr} (h : List.lookup x [(k, a)] = some c) : c = a := by
  by_cases e : x = k
  · subst e
    simp [List.lookup] at h
    exact h.symm
  · have e2 : (x == k) = false := by simpa using e
    simp [List.lookup, e2] at h

/-- the context of an __init__ that knows its class -/
def cxS (P : Program) (w : World) (K : PySem.W.Frag) (mg : Str → Option Value) (base : Heap) (N : List Str) (qual : Str) (scope : Scope) (f : Addr) (cd : Value) (cc : Addr) (A : Around) (outer : List Env) (s : Shared) (H : Hp) : Cx where
  prog := P
  w := w
  K := K
  mg := mg
  base := base
  A := A.deeper (PySem.W.ksEnv qual scope s.heap.objs.size f cd cc)
  N := N
  s_0 := s
  H_0 := H
  env := PySem.W.ksEnv qual scope s.heap.objs.size f cd cc
  outer := outer
  stack := PySem.W.ksEnv qual scope s.heap.objs.size f cd cc :: outer
  ex := []
  calm := true
  fn := fun _ => false
  pn := []
  xe := fun _ _ => False

/-- what such an __init__ promises: the field is set -/
def spExI (C : Addr) (fld : Str) : Sp := fun vs H Q _ => ∃ (a : Addr) (n : Int), vs = [.ref a, .int n] ∧ n.natAbs.log2 < 1920 ∧ H a = some (exo a C none) ∧
  ∀ dx, H dx = none → dx ≠ a → Q .non (upd (upd H dx (exd dx [(fld, .int n)])) a (exo a C (some dx)))

/-- super().__init__(..) of an exception that has no dict yet -/
theorem call_mw {X : Cx} {pins : List (Addr × Obj)} {σ : L2.St} {H : Hp} {s : Shared} {a C u : Addr} {us : List Value} {Q : Value → Shared → Prop} {E : Value → Shared → Prop} {A : Around} (T : OexC X.K C) (I : Inv X pins σ H s) (e : H a = some (exo a C none)) (hl : us.length ≤ sizeLine)
    (hu : s.heap.get? u = some (PySem.W.kxs_mw "ValueError.__init__" a)) (h : ∀ s', Inv X pins σ H s' → Q .none s') : wpAny (model X.prog X.w) A (call (.ref u) us) Q E s := by
  obtain ⟨nm, q, N, bs, bm, sn, sub, ab, col, dd, k0, k1, k2, k3, k5, hC, hbm⟩ := T.cls
  obtain ⟨t1, ho⟩ := exo_at I.hok e
  have hC' := I.kIn _ _ hC
  have fin : ∀ (h' : Heap) (t2 : Addr), (∀ b o, b ≠ a → s.heap.get? b = some o → h'.get? b = some o) → h'.get? a = some ({ cls := .ref C, dict := none, data := .fields #[.ref t2, .none, .none, .none, .bool false, .none] } : Obj) → Inv X pins σ H { s with heap := h' } := fun h' t2 k hx => by
    have J := I.write (t' := s.toks) (x := a) (e := a) (o := exo a C none) (by rw [e]; exact True.intro) (.inl rfl) k ⟨_, hx⟩ (exo_ok hx)
    have eu : upd H a (exo a C none) = H := by
      funext b
      by_cases hb : b = a
      · rw [hb, upd_same, e]
      · rw [upd_ne hb]
    rw [eu] at J
    exact J
  obtain ⟨hp, g, d, t, os⟩ := s
  refine wpAny_call (codeAny_of_tree ?_)
  show wpAny _ A.in1 (callAny (.ref u) ⟨us, []⟩) _ _ _
  simp only [callAny]
  refine wpAny_bind (wpAny_load hu ?_)
  simp only [PySem.W.kxs_mw, show (Value.type "method-wrapper" == Value.type "method" || Value.type "method-wrapper" == Value.type "builtin_function_or_method" || Value.type "method-wrapper" == Value.type "method-wrapper") = true by decide, if_true]
  refine PySem.W.KFB.if_so (by decide) ?_
  refine wpAny_bind (PySem.W.check_bound_init F.excBase_ValueError.toExcCallFacts hC' ho rfl ?_)
  refine wpAny_bind (wpAny_pure (wpAny_pure ?_))
  refine ⟨plainId_quiet F.excBase_ValueError.init.plain _, codeAny_builtin F.excBase_ValueError.initEntry ?_⟩
  rw [Around.under_plainId F.excBase_ValueError.init.plain _]
  exact PySem.W.exc_init_tree (cls := .ref C) (t0 := t1) (dv := none) (c2 := .none) (c3 := .none) (b4 := .bool false) ho hl fun h' k hx _ => h _ (fin h' _ k hx)

section
variable {P : Program} {w : World} {K : PySem.W.Frag} {mg : Str → Option Value} {base : Heap}
theorem exsup_ok {CX : CXT} {k : Nat} {C f cc cda : Addr} {qual fld : Str} {params : Arguments} {body : List Stmt} {scope : Scope} {oc kV doc pm ct ccl cl : Value} {od an cdd cld : Option Addr} {osl ccs csl : Array (Option Value)} {vs5 : Array Value} {file : Str} {tf : Tok} {ar : Arg}
    {p0 p1 p2 p3 p4 q1 q2 q3 q4 : Pos} {e : Expr}
    (T : OexC K C)
    (lk : K.lookup f = some ⟨oc, od, .func (PySem.W.ksFn "__init__" qual params body scope .none kV doc pm an (.ref cda) ct cc), osl⟩) (hcd : PySem.W.codeIn K (.ref cda) qual = true)
    (hcode : K.lookup cda = some ⟨ccl, cdd, .fields vs5, ccs⟩) (hvs : vs5[2]? = some (.str file tf)) (hfile : ((P.main.file : Str) == file) = true)
    (hcell : K.lookup cc = some ⟨cl, cld, .cell (some (.ref C)), csl⟩)
    (hops : PySem.W.nsIn K cStatics "thirdparty.any" = some none) (hsuper : mg "super" = none)
    (hsin : PySem.W.ks_superIn K C C "__init__" = some (some (.builtin "ValueError.__init__")))
    (hB : PySem.W.subIn K (.ref C) (.type "ValueError") = some true) (hCC : PySem.W.mroIn K C (.ref C) = some true) (noN : PySem.W.findIn K (.ref C) fld = some none)
    (htop : (P.main.scope.names.lookup ("super" : Str)).isSome = false)
    (hbody : body = [.Expr (.Call (.Attribute (.Call (.Name "super" p0) [] [] p1) "__init__" p2) [e] [] p3) p4, .Assign [.Attribute (.Name "self" q1) fld q2] (.Name fld q3) q4])
    (hp : (params.posonlyargs ++ params.args).head? = some ar) (har : ar.arg = "self")
    (hks : scope.names.lookup ("super" : Str) = some .globalImplicit) (hkc : scope.names.lookup ("__class__" : Str) = some .free) (hka : scope.names.lookup ("self" : Str) = some .local) (hkf : scope.names.lookup fld = some .local)
    (hkind : scope.kind = .function) (hco : scope.isCoroutine = false) (hgen : scope.isGenerator = false) (hnc : ∀ x ∈ scope.names, x.2 ≠ .cell) (honly : ∀ x, scope.names.lookup x = some .free → x = "__class__") (hnd : fld ≠ "self")
    (hdb : (fld == ("__debug__" : Str)) = false) (hdc : (fld == ("__classdict__" : Str)) = false)
    (hmsg : ∀ X : Cx, X.N = [("self" : Str), fld] → X.env.scope = scope → ∃ t, PE X e t ∧ ∀ (σ : L2.St) (n : Int) (H : Hp) (Q : VK), σ[1]? = some (some (.int n)) → n.natAbs.log2 < 1920 → (∀ z : Str, Q (.str z) H) → t σ H Q)
    (hst : ∀ (L : Addr), starEach [e] (PySem.W.ksEnv qual scope L f (.ref cda) cc) = (false, eval e (PySem.W.ksEnv qual scope L f (.ref cda) cc)) :: starEach [] (PySem.W.ksEnv qual scope L f (.ref cda) cc))
    {pl : Sem Bool} (hms : ∀ (L : Addr), eval (.Call (.Attribute (.Call (.Name "super" p0) [] [] p1) "__init__" p2) [e] [] p3) (PySem.W.ksEnv qual scope L f (.ref cda) cc) = (do
      let ov ← attributeBase (.Call (.Name "super" p0) [] [] p1) "__init__" (PySem.W.ksEnv qual scope L f (.ref cda) cc) (eval (.Call (.Name "super" p0) [] [] p1) (PySem.W.ksEnv qual scope L f (.ref cda) cc))
      standAt p2.atName
      let (g, first) ← holding [ov] (getMethod ov "__init__" pl)
      callWith p3 g first (backTo p3 (starEach [e] (PySem.W.ksEnv qual scope L f (.ref cda) cc))) [])) :
    FnOk P w K mg base CX (k + 1) f (PySem.W.ksFn "__init__" qual params body scope .none kV doc pm an (.ref cda) ct cc) ["self", fld] (spExI C fld) := by
  refine ⟨fun vs H Q E h => ?_, fun A outer s H args us vs Q E hr e0 hb r hsp => ?_⟩
  · obtain ⟨a, n, rfl, _⟩ := h
    rfl
  obtain ⟨a, n, rfl, hn, ha, hk⟩ := hsp
  obtain ⟨u0, u1, rfl, r0, r1⟩ := vals2 r
  obtain rfl : u0 = Value.ref a := r0
  obtain ⟨tk, rfl⟩ := r1
  have KX : K.In s.heap := e0.mod.kin.keeps fun b o q => (e0.bs b o q).1
  have lim : s.heap.NoLimit := e0.mod.nolimit.keeps fun b o q => (e0.bs b o q).1
  refine PySem.ks_codeAny_call_defAt (body := body) (binds := (["self", fld] : List Str).zip [Value.ref a, Value.int n tk]) hr.depth (KX _ _ lk) rfl lim (PySem.W.codeRec_of KX hcd) rfl hb hnc (fun x hx => ?_) (fun h1 hns hk1 => ?_) hco hgen hkind
  · have hx' : x = (("self" : Str), Value.ref a) ∨ x = (fld, Value.int n tk) := by simpa using hx
    rcases hx' with rfl | rfl
    · exact hka
    · exact hkf
  have hne : (("self" : Str) == fld) = false := by simpa using Ne.symm hnd
  have nocell : ∀ x, scope.names.lookup x ≠ some .cell := fun x hx => hnc _ (PySem.mem_of_lookup hx) rfl
  have cells : ∀ {x c}, (cxS P w K mg base ["self", fld] qual scope f (.ref cda) cc A outer s H).env.cells.lookup x = some c → c = cc := fun h => one_lookup h
  have freeCC : H cc = none := (e0.bs _ _ (e0.mod.kin _ _ hcell)).2
  have I : Inv (cxS P w K mg base ["self", fld] qual scope f (.ref cda) cc A outer s H) [] [some (.ref a), some (.int n)] H { s with heap := h1, toks := s.toks + 2 } := by
    have noA : ∀ b : Addr, b ∉ (cxS P w K mg base ["self", fld] qual scope f (.ref cda) cc A outer s H).ex := fun b z => absurd (show b ∈ ([] : List Addr) from z) (by simp)
    refine ⟨⟨e0.mod, hkind, rfl, rfl, Nat.le_refl _, fun y z c h1 h2 => ?_, fun y hy => ?_, fun y c z _ => ?_, fun _ => hr.hd, Around.frames_deeper e0.frames, .inr ⟨rfl, rfl⟩, fun b z => absurd z (noA b), e0.bs, e0.bsz, fun b _ _ => noA b, fun b z => absurd z (noA b), e0.funs, e0.frf⟩,
      rfl, e0.bare, Un.kept hk1, ⟨_, hns, fun i y v h1 h2 h3 => ?_⟩, fun y c h => ?_, e0.hok.fresh (Nat.le_refl _), fun y c h => ?_, fun p hp => absurd (show p ∈ ([] : List (Addr × Obj)) from hp) (by simp), e0.hok.kept hk1, rfl⟩
    · have k1 : ∀ {y c}, List.lookup y [(("__class__" : Str), cc)] = some c → y = "__class__" := fun {y c} q => by
        by_cases z : y = "__class__"
        · exact z
        · have e2 : (y == ("__class__" : Str)) = false := by simpa using z
          simp [List.lookup, e2] at q
      rw [k1 h1, k1 h2]
    · rcases hy with hy | hy
      · exact absurd hy (nocell y)
      · have e1 := honly y hy
        subst e1
        exact ⟨cc, rfl⟩
    · exact Bool.noConfusion (show false = true from z)
    · refine match i, h1, h2 with
        | 0, h1, h2 => ?_
        | 1, h1, h2 => ?_
        | i + 2, h1, h2 => ?_
      · have e1 : ("self" : Str) = y := Option.some.inj h1
        have e2 : V.ref a = v := Option.some.inj (Option.some.inj h2)
        subst e1
        subst e2
        exact ⟨.ref a, rfl, .inl ⟨hka, by simp [List.lookup, hne]⟩⟩
      · have e1 : fld = y := Option.some.inj h1
        have e2 : V.int n = v := Option.some.inj (Option.some.inj h2)
        subst e1
        subst e2
        exact ⟨.int n tk, ⟨tk, rfl⟩, .inl ⟨hkf, by simp [List.lookup]⟩⟩
      · exact absurd h1 (by simp [cxS])
    · rw [cells h]
      exact ⟨_, _, hk1 _ _ (KX _ _ hcell), rfl⟩
    · rw [cells h]
      exact freeCC
  subst hbody
  have KX1 : K.In h1 := KX.keeps hk1
  obtain ⟨nm, q, N, bs, bm, sn, sub, ab, col, dd, k0, k1, k2, k3, k5, hC, hbm⟩ := id T.cls
  have hcl : PySem.W.clsIn K C = some { name := nm, bases := bs, mro := .ref C :: bm, ns := N, qualname := q, hasDict := true, slotNames := sn, subclasses := sub, abstract := ab, collection := col, hasDel := false } := by unfold PySem.W.clsIn; rw [hC] <;> rfl
  obtain ⟨t1, ho⟩ := exo_at I.hok ha
  obtain ⟨mb, b1, b2⟩ := I.mod.blt
  obtain ⟨hh, g, d, t0, os⟩ := s
  have hac : a ≠ C := fun z => by
    have z1 := KX1 _ _ hC
    rw [← z] at z1
    have z2 := z1.symm.trans ho
    cases z2
  refine PySem.ks_wpAt_execs_cons (PySem.ks_wpAt_Expr_any (PySem.ks_wpAt_MethodCall (pl := pl) ?_ (hms _)) I.quiet rfl)
  refine PySem.ks_wpAt_super_base hks hkc (by decide) rfl (KX1 _ _ lk) rfl hp rfl (KX1 _ _ hcode) rfl hvs hfile htop ?_
  refine PySem.W.ks_loadName_global hkind hks (Calls.loadGlobal_builtin (I.mod.glob.keeps I.bk) hsuper (b1.keeps I.bk) ((b2 "super" (by decide)).trans (by decide +kernel : bootBuiltins "super" = some (.type "super"))) ⟨rfl, ?_⟩)
  refine wpAny_loadName_free hkind hkc rfl ⟨_, KX1 _ _ hcell, rfl⟩ ?_
  rw [har]
  refine wpAny_loadName_local (v := .ref a) hkind hka hns (by simp [List.lookup, hne]) ?_
  refine PySem.ks_wpAny_isType_cls (KX1 _ _ hC) rfl ⟨rfl, ?_⟩
  refine PySem.ks_wpAny_call_super (KX1 _ _ hC) rfl ho rfl (fun c z => by cases z) (PySem.W.looks_mroIn KX1 hCC) (fun h2 e2 kk2 => ?_)
  have I2 := I.kept (t' := t0 + 2) kk2
  have KX2 := KX1.keeps kk2
  have ho2 := kk2 _ _ ho
  have hI : PySem.W.Looks (model P w) h2 (isInstance (.ref a) (.type "ValueError")) true :=
    (PySem.W.InstAt.type (M := model P w) (ox := { cls := .ref C, data := .fields #[.ref t1, .none, .none, .none, .bool false, .none] }) (od := none) ⟨ho2, rfl, rfl, trivial⟩).andThen (PySem.W.looks_subIn KX2 hB)
  have hsin2 : PySem.W.alongIn K "__init__" (((Value.ref C :: bm).dropWhile (· != .ref C)).drop 1) = some (some (.builtin "ValueError.__init__")) := by
    unfold PySem.W.ks_superIn at hsin
    rw [hcl] at hsin
    exact hsin
  refine PySem.W.kxs_getMethod PySem.W.kxs_ValueError e2 (PySem.W.looks_opaque KX2 hops) (l₀ := .ref C :: bm) ?_ rfl KX2 hsin2 hI hac (by decide) ?_
  · exact fun A Q E s k q => wpAny_bind ((PySem.W.looks_clsIn KX2 hcl) A _ E s k (wpAny_pure q))
  have kk3 : ∀ b o, h2.get? b = some o → (h2.push (PySem.W.kxs_mw "ValueError.__init__" a)).get? b = some o := fun b o q => Heap.get?_push_of_some _ q
  have I3 := I2.kept (t' := t0 + 2 + 1) kk3
  have hu : (h2.push (PySem.W.kxs_mw "ValueError.__init__" a)).get? h2.objs.size = some (PySem.W.kxs_mw "ValueError.__init__" a) := Heap.get?_push_at rfl rfl
  have I4 := I3.pins_of (pins' := [(h2.objs.size, PySem.W.kxs_mw "ValueError.__init__" a)]) (fun p hp => by
    obtain rfl : p = (h2.objs.size, PySem.W.kxs_mw "ValueError.__init__" a) := by simpa using hp
    refine ⟨hu, I2.hok.fresh (Nat.le_refl _), fun z => ?_, I2.nofs (Nat.le_refl _), fun v z => by cases z⟩
    have z1 := I2.lt
    rw [← z] at z1
    exact Nat.lt_irrefl _ z1)
  obtain ⟨te, pe, rd⟩ := hmsg (cxS P w K mg base ["self", fld] qual scope f (.ref cda) cc A outer ⟨hh, g, d, t0, os⟩ H) rfl rfl
  have pa := pa_cons pe pa_nil (hst _)
  have e3 : backTo p3 (starEach [e] (PySem.W.ksEnv qual scope hh.objs.size f (.ref cda) cc)) = (false, eval e (PySem.W.ksEnv qual scope hh.objs.size f (.ref cda) cc)) :: backTo p3 (starEach [] (PySem.W.ksEnv qual scope hh.objs.size f (.ref cda) cc)) := by rw [hst]; rfl
  refine PySem.W.kxs_callWith (i := "ValueError.__init__") (x := a) (by show (backTo p3 (starEach [e] (PySem.W.ksEnv qual scope hh.objs.size f (.ref cda) cc))).any (·.1) = false; rw [e3]; rfl) ?_
  show wpAny _ _ (evalArgs _ true (backTo p3 (starEach [e] (PySem.W.ksEnv qual scope hh.objs.size f (.ref cda) cc))) []) _ _ _
  rw [e3]
  refine Calls.evalArgs_plain ?_
  rw [← e3]
  refine wpAny_mono (pa.run p3 _ _ _ _ (fun vs H' => (∃ z, vs = [V.str z]) ∧ H' = H) I4 (rd _ n H _ rfl hn fun z => ⟨⟨z, rfl⟩, rfl⟩)) (fun us s5 hu5 => ?_) fun _ _ z => z.elim
  obtain ⟨vs, H', I5, r5, ⟨z, rfl⟩, rfl⟩ := hu5
  have hu6 := (I5.pin (h2.objs.size, PySem.W.kxs_mw "ValueError.__init__" a) (by simp [cxS])).1
  refine ⟨hu6, ?_⟩
  obtain ⟨uz, rfl, _⟩ := vals1 r5
  refine call_mw T I5 ha (by show 1 ≤ sizeLine; decide) hu6 fun s6 I6 => ?_
  show PySem.wpAt _ _ _ (execs _ _) _ _ _
  refine wpAt_of_wpAny ?_
  have J6 := I6.pins_of (pins' := []) (fun p hp => by cases hp)
  have ps : PSs (cxS P w K mg base ["self", fld] qual scope f (.ref cda) cc A outer ⟨hh, g, d, t0, os⟩ H') [.Assign [.Attribute (.Name "self" q1) fld q2] (.Name fld q3) q4] (tOst K fld (tVar 0) (tVar 1)) :=
    pss_one (ps_ost (pe_var rfl (.inl hka)) (pe_var rfl (.inl hkf) hdb hdc) rfl)
  refine wpAny_mono (ps.run [] s6 _ H' { nx := fun _ H2 => Q .non H2, rt := fun _ _ => False } J6 ⟨_, rfl, _, rfl, a, C, rfl, T, noN, .inl ⟨ha, hk⟩⟩) (fun fl s7 hs => ?_) fun _ _ z => z.elim
  cases fl with
  | next =>
    obtain ⟨σ7, H7, J, q7⟩ := hs
    exact ⟨.non, H7, J.os, J.bare, J.base, J.hok, rfl, q7⟩
  | ret u =>
    obtain ⟨_, _, _, _, _, q7⟩ := hs
    exact q7.elim
  | brk =>
    obtain ⟨_, _, _, q7⟩ := hs
    exact q7.elim
  | cont =>
    obtain ⟨_, _, _, q7⟩ := hs
    exact q7.elim
end
/-- what stands of such an __init__ behind the top -/
structure ExInit (P : Program) (K : PySem.W.Frag) (mg : Str → Option Value) (C f : Addr) (fd : FuncData) (fld : Str) (st : Stmt) : Prop where
  ex : ∃ (qual : Str) (oc kV doc pm ct ccl cl : Value) (od an cdd cld : Option Addr) (osl ccs csl : Array (Option Value)) (vs5 : Array Value) (file : Str) (tf : Tok) (cc cda : Addr),
    fd = PySem.W.ksFn "__init__" qual (defArgs st) (defBody st) (defScope st) .none kV doc pm an (.ref cda) ct cc ∧ K.lookup f = some ⟨oc, od, .func fd, osl⟩ ∧ PySem.W.codeIn K (.ref cda) qual = true ∧
    K.lookup cda = some ⟨ccl, cdd, .fields vs5, ccs⟩ ∧ vs5[2]? = some (.str file tf) ∧ ((P.main.file : Str) == file) = true ∧ K.lookup cc = some ⟨cl, cld, .cell (some (.ref C)), csl⟩
  ops : PySem.W.nsIn K cStatics "thirdparty.any" = some none
  nsup : mg "super" = none
  sin : PySem.W.ks_superIn K C C "__init__" = some (some (.builtin "ValueError.__init__"))
  sub : PySem.W.subIn K (.ref C) (.type "ValueError") = some true
  mro : PySem.W.mroIn K C (.ref C) = some true
  noN : PySem.W.findIn K (.ref C) fld = some none
  top : (P.main.scope.names.lookup ("super" : Str)).isSome = false
/-- .. and what its instances are read by -/
structure ExF (K : PySem.W.Frag) (C : Addr) (fld : Str) : Prop where
  xf : XfC K C
  noN : PySem.W.findIn K (.ref C) fld = some none
end Rz

namespace Rz
open PySem PySem.Spec PyProof.Rows L2
theorem str_int_len {n : Int} (h : n.natAbs.log2 < 1920) : (toString n : Str).length ≤ 1921 := PyProof.Rows.int_text_len_1921 h
theorem exinit_ok {P : Program} {w : World} {K : PySem.W.Frag} {mg : Str → Option Value} {base : Heap} {CX : CXT} {C f : Addr} {fd : FuncData} {fld : Str} {st : Stmt} {ar : Arg} {p0 p1 p2 p3 p4 q1 q2 q3 q4 : Pos} {e : Expr}
    (T : OexC K C) (I : ExInit P K mg C f fd fld st)
    (hbody : defBody st = [.Expr (.Call (.Attribute (.Call (.Name "super" p0) [] [] p1) "__init__" p2) [e] [] p3) p4, .Assign [.Attribute (.Name "self" q1) fld q2] (.Name fld q3) q4])
    (hp : ((defArgs st).posonlyargs ++ (defArgs st).args).head? = some ar) (har : ar.arg = "self")
    (hks : (defScope st).names.lookup ("super" : Str) = some .globalImplicit) (hkc : (defScope st).names.lookup ("__class__" : Str) = some .free) (hka : (defScope st).names.lookup ("self" : Str) = some .local) (hkf : (defScope st).names.lookup fld = some .local)
    (hkind : (defScope st).kind = .function) (hco : (defScope st).isCoroutine = false) (hgen : (defScope st).isGenerator = false)
    (hnc : ((defScope st).names.all fun x => decide (x.2 ≠ .cell)) = true) (hfr : ((defScope st).names.all fun x => decide (x.2 = .free → x.1 = "__class__")) = true) (hnd : fld ≠ "self")
    (hdb : (fld == ("__debug__" : Str)) = false) (hdc : (fld == ("__classdict__" : Str)) = false)
    (hmsg : ∀ X : Cx, X.N = [("self" : Str), fld] → X.env.scope = defScope st → ∃ t, PE X e t ∧ ∀ (σ : L2.St) (n : Int) (H : Hp) (Q : VK), σ[1]? = some (some (.int n)) → n.natAbs.log2 < 1920 → (∀ z : Str, Q (.str z) H) → t σ H Q)
    (hst : ∀ (qual : Str) (L cda cc : Addr), starEach [e] (PySem.W.ksEnv qual (defScope st) L f (.ref cda) cc) = (false, eval e (PySem.W.ksEnv qual (defScope st) L f (.ref cda) cc)) :: starEach [] (PySem.W.ksEnv qual (defScope st) L f (.ref cda) cc))
    {pl : Sem Bool} (hms : ∀ (qual : Str) (L cda cc : Addr), eval (.Call (.Attribute (.Call (.Name "super" p0) [] [] p1) "__init__" p2) [e] [] p3) (PySem.W.ksEnv qual (defScope st) L f (.ref cda) cc) = (do
      let ov ← attributeBase (.Call (.Name "super" p0) [] [] p1) "__init__" (PySem.W.ksEnv qual (defScope st) L f (.ref cda) cc) (eval (.Call (.Name "super" p0) [] [] p1) (PySem.W.ksEnv qual (defScope st) L f (.ref cda) cc))
      standAt p2.atName
      let (g, first) ← holding [ov] (getMethod ov "__init__" pl)
      callWith p3 g first (backTo p3 (starEach [e] (PySem.W.ksEnv qual (defScope st) L f (.ref cda) cc))) [])) :
    FnOk P w K mg base CX 1 f fd ["self", fld] (spExI C fld) := by
  obtain ⟨qual, oc, kV, doc, pm, ct, ccl, cl, od, an, cdd, cld, osl, ccs, csl, vs5, file, tf, cc, cda, rfl, lk, hcd, hcode, hvs, hfile, hcell⟩ := I.ex
  refine exsup_ok (k := 0) T lk hcd hcode hvs hfile hcell I.ops I.nsup I.sin I.sub I.mro I.noN I.top hbody hp har hks hkc hka hkf hkind hco hgen (fun x hx => ?_) (fun x hx => ?_) hnd hdb hdc hmsg (fun L => hst qual L cda cc) (fun L => hms qual L cda cc)
  · exact of_decide_eq_true (List.all_eq_true.mp hnc x hx)
  · exact of_decide_eq_true (List.all_eq_true.mp hfr _ (PySem.mem_of_lookup hx)) rfl
theorem msg_ok2 {sc : Scope} {fld c : Str} {p1 p2 p3 p4 : Pos} {j : Nat} (hv : sc.names.lookup fld = some .local) (hd : (fld == ("__debug__" : Str)) = false) (hdc : (fld == ("__classdict__" : Str)) = false) (hc : c.length ≤ 1000) (X : Cx) (hN : X.N = [("self" : Str), fld]) (hs : X.env.scope = sc) :
    ∃ t, PE X (.JoinedStr [.Constant (.str c) j p1, .FormattedValue (.Name fld p2) (-1) none p3] p4) t ∧ ∀ (σ : L2.St) (n : Int) (H : Hp) (Q : VK), σ[1]? = some (some (.int n)) → n.natAbs.log2 < 1920 → (∀ z : Str, Q (.str z) H) → t σ H Q := by
  refine ⟨_, pe_joined (.cons pe_str (.cons (pe_fmt (pe_var (i := 1) (by rw [hN]; rfl) (.inl (by rw [hs]; exact hv)) hd hdc)) .nil)), fun σ n H Q h1 hn hq => ?_⟩
  have l1 := str_int_len hn
  refine ⟨c, rfl, ?_, ?_⟩
  · rw [Str.length_append, sizeLine_eq]
    show 0 + c.length ≤ _
    omega
  · refine ⟨_, h1, .inr ⟨n, rfl, hn, _, rfl, ?_, hq _⟩⟩
    rw [Str.length_append, Str.length_append, sizeLine_eq]
    show 0 + c.length + _ ≤ _
    omega
theorem msg_ok3 {sc : Scope} {fld c c2 : Str} {p1 p2 p3 p4 p5 : Pos} {j j2 : Nat} (hv : sc.names.lookup fld = some .local) (hd : (fld == ("__debug__" : Str)) = false) (hdc : (fld == ("__classdict__" : Str)) = false) (hc : c.length ≤ 1000) (hc2 : c2.length ≤ 1000) (X : Cx) (hN : X.N = [("self" : Str), fld]) (hs : X.env.scope = sc) :
    ∃ t, PE X (.JoinedStr [.Constant (.str c) j p1, .FormattedValue (.Name fld p2) (-1) none p3, .Constant (.str c2) j2 p5] p4) t ∧ ∀ (σ : L2.St) (n : Int) (H : Hp) (Q : VK), σ[1]? = some (some (.int n)) → n.natAbs.log2 < 1920 → (∀ z : Str, Q (.str z) H) → t σ H Q := by
  refine ⟨_, pe_joined (.cons pe_str (.cons (pe_fmt (pe_var (i := 1) (by rw [hN]; rfl) (.inl (by rw [hs]; exact hv)) hd hdc)) (.cons pe_str .nil))), fun σ n H Q h1 hn hq => ?_⟩
  have l1 := str_int_len hn
  refine ⟨c, rfl, ?_, ?_⟩
  · rw [Str.length_append, sizeLine_eq]
    show 0 + c.length ≤ _
    omega
  · refine ⟨_, h1, .inr ⟨n, rfl, hn, _, rfl, ?_, c2, rfl, ?_, hq _⟩⟩
    · rw [Str.length_append, Str.length_append, sizeLine_eq]
      show 0 + c.length + _ ≤ _
      omega
    · rw [Str.length_append, Str.length_append, Str.length_append, sizeLine_eq]
      show 0 + c.length + _ + _ ≤ _
      omega
end Rz

namespace Rz
open PySem PySem.Spec PyProof.Rows L2

/-! ### enumerate(text) -/
def Ites (x : Str) : It :=
  ⟨fun i _ => i < x.cps.size, fun i H v H' => ∃ T c, v = .ref T ∧ H T = none ∧ H' = upd H T (.tup [.int (i : Nat), .str ⟨#[c]⟩]) ∧ x.cps[i]? = some c, fun i _ => i = x.cps.size⟩
theorem turn_enumS {P : Program} {w : World} {K : PySem.W.Frag} {elts : List Expr} {kk : Nat} {tpos : Pos} (e it : Addr) (x : Str) (t : Tok) :
    Turn P w K (.Tuple elts kk tpos) (Ites x) [e, it] e (fun i h => (∃ old, IsEnum h e it ((i : Nat) : Int) old) ∧ h.IsStrIter it (strIterType x) x t i ∧ e ≠ it) where
  mem := by simp
  obj := fun i h st b hb => by
    obtain ⟨⟨old, he⟩, ⟨o, ho, hc, hd⟩, _⟩ := st
    have z2 : b = e ∨ b = it := by simpa using hb
    rcases z2 with rfl | rfl
    · exact ⟨_, he, fun v q => nomatch q⟩
    · exact ⟨o, ho, fun v q => by rw [hd] at q; cases q⟩
  keep := fun i h h' st k => by
    obtain ⟨⟨old, he⟩, ⟨o, ho, r⟩, hne⟩ := st
    exact ⟨⟨old, k e (by simp) _ he⟩, ⟨o, k it (by simp) _ ho, r⟩, hne⟩
  item := by
    intro X hP hw hK hc i pins s σ H E I hf st hg
    subst hP hw hK
    obtain ⟨⟨old, he⟩, hit, hne⟩ := st
    have hel : e < s.heap.objs.size := Heap.lt_size he
    have hil : it < s.heap.objs.size := by obtain ⟨_, q, _⟩ := hit; exact Heap.lt_size q
    have D := Draws.text (prog := X.prog) (w := X.w) (A := X.A.in1) (I.ok.hd hc) it x t
    refine wpAny_pyNext_enum_itemD D he hit hg hne (by simpa using hne) fun u h' tk hu ho hit2 hT hsz hk => ?_
    obtain ⟨c, tc, hcx, rfl⟩ := hu
    refine ⟨_, rfl, wpAny_letOwnedTupleGo_enum (s := { s with heap := h', toks := tk + 1 }) ho fun h2 he2 sb => ?_⟩
    have hT2 : h2.get? s.heap.objs.size = some { cls := .type "tuple", data := .seq #[.int i tk, .str ⟨#[c]⟩ tc] } := (sb.2 _ (Nat.ne_of_gt hel)).trans hT
    have new : ObjOk X.prog X.w (upd H s.heap.objs.size (.tup [.int (i : Nat), .str ⟨#[c]⟩])) h2 s.heap.objs.size (.tup [.int (i : Nat), .str ⟨#[c]⟩]) :=
      ⟨by show 2 ≤ sizeLine; decide, [.int i tk, .str ⟨#[c]⟩ tc], .cons ⟨_, rfl⟩ (.cons ⟨_, rfl⟩ .nil), ⟨_, hT2, rfl, _, rfl⟩⟩
    have J : Inv X pins σ (upd H s.heap.objs.size (.tup [.int (i : Nat), .str ⟨#[c]⟩])) { s with heap := h2, toks := tk + 1 } :=
      I.turnedNew (t' := tk + 1) (ch := [e, it]) (fun b ob hb q => (sb.2 b (fun z => hb (by simp [z]))).trans (hk b ob (fun z => hb (by simp [z])) (fun z => hb (by simp [z])) q)) hf (Nat.le_refl _) new
    obtain ⟨oi, e3, r3⟩ := hit2
    refine ⟨.ref s.heap.objs.size, _, J, rfl, ⟨_, c, rfl, I.hok.fresh (Nat.le_refl _), rfl, hcx⟩, ⟨⟨.str ⟨#[c]⟩ tc, ?_⟩, ⟨oi, (sb.2 it (Ne.symm hne)).trans e3, r3⟩, hne⟩, fun b hb => ?_⟩
    · have e1 : ((i + 1 : Nat) : Int) = (i : Int) + 1 := by omega
      rw [e1]
      exact he2
    · have hbl : b < s.heap.objs.size := by
        have z2 : b = e ∨ b = it := by simpa using hb
        rcases z2 with rfl | rfl
        · exact hel
        · exact hil
      rw [upd_ne (Nat.ne_of_lt hbl)]
      exact (hf b hb).1
  done := by
    intro X hP hw hK hc i pins s σ H E I hf st hg
    subst hP hw hK
    obtain ⟨⟨old, he⟩, hit, hne⟩ := st
    obtain ⟨f0, f1, f2, f3, f4, f5⟩ := hf it (by simp)
    have D := Draws.text (prog := X.prog) (w := X.w) (A := X.A.in1) (I.ok.hd hc) it x t
    have hg' : i = x.cps.size := hg
    subst hg'
    exact wpAny_pyNext_enum_endD D he hit fun h' eb => ⟨rfl, I.turned (t' := s.toks) (fun b o hb q => eb b o hb q) f0 f1 f3 f4 f5⟩
  self := fun A i s Q E st h => let ⟨⟨_, he⟩, _⟩ := st; wpAny_pyIter_enum he h
theorem walk_enumS {z : Str} : Walk (Ites z) z.cps.size (fun _ => True) (fun i H v H' => ∃ T c, v = .ref T ∧ H T = none ∧ H' = upd H T (.tup [.int (i : Nat), .str ⟨#[c]⟩]) ∧ z.cps.toList[i]? = some c) :=
  ⟨fun _ _ hi _ => hi, fun _ _ => rfl, fun i H x H' _ _ y => by
    obtain ⟨T, c, e1, e2, e3, e4⟩ := y
    exact ⟨T, c, e1, e2, e3, by rw [Array.getElem?_toList]; exact e4⟩⟩
def iEnumS (ta : TA) : TI := fun σ H R => ta σ H fun vs H1 => ∃ x, vs = [.str x] ∧ R (Ites x) H1
theorem pi_enumS {X : Cx} {e : Expr} {ta : TA} {p pos tpos : Pos} {elts : List Expr} {kk : Nat} (hg : Gl X "enumerate") (hm : X.mg "enumerate" = none) (ha : PA X [e] ta) (hs : starEach [e] X.env = [(false, eval e X.env)] := by rfl) :
    PI X (.Tuple elts kk tpos) (.Call (.Name "enumerate" p) [e] [] pos) (iEnumS ta) := by
  refine ⟨fun pins s σ H R I h => ?_⟩
  refine Call_ (ld_blt I hg hm boot_enumerate (PyProof.Rows.callWith_type1 (thn (ha.run pos pins s σ H _ I h) fun us s1 ⟨vs, H1, I1, r1, q1⟩ => ?_) hs rfl))
  obtain ⟨x, rfl, q⟩ := q1
  obtain ⟨u, rfl, ru⟩ := vals1 r1
  obtain ⟨t, rfl⟩ := ru
  refine call_enumerate_str fun h' he hit hsz hk => wpAny_pyIter_enum he ?_
  have J : Inv X pins σ H1 { s1 with heap := h' } := I1.kept (t' := s1.toks) hk
  refine ⟨s1.heap.objs.size + 1, [s1.heap.objs.size + 1, s1.heap.objs.size], _, _, H1, rfl, J, turn_enumS (s1.heap.objs.size + 1) s1.heap.objs.size x t, ⟨⟨.none, he⟩, hit, Nat.succ_ne_self _⟩, fun b hb => ?_, q⟩
  have hle : s1.heap.objs.size ≤ b := by
    have z2 : b = s1.heap.objs.size + 1 ∨ b = s1.heap.objs.size := by simpa using hb
    rcases z2 with rfl | rfl
    · exact Nat.le_add_right _ _
    · exact Nat.le_refl _
  exact I1.fpOk hle (I1.hok.fresh hle)
end Rz

namespace Rz
open PySem PySem.Spec PyProof.Rows L2

abbrev SuR := Addr → Value → Option Addr → TS
/-- a clause: its class, the slot of its name if it has one, its suite -/
abbrev Cls1 := Value × Option Nat × SuR
def endM (i : Option Nat) (D : Ends) : Ends := match i with
  | none => D
  | some i => { nx := fun σ H => D.nx (σ.set i none) H, rt := D.rt, bk := fun σ H => D.bk (σ.set i none) H, ct := fun σ H => D.ct (σ.set i none) H }
def stM (i : Option Nat) (a : Addr) (σ : L2.St) : L2.St := match i with
  | none => σ
  | some i => σ.set i (some (.ref a))
def wMix (K : PySem.W.Frag) (Wout : WX) (D : Ends) : List Cls1 → WX
  | [] => Wout
  | (c, i, ts) :: r => fun cls d σ H => ∃ b, PySem.W.exmOne K cls c = some b ∧ (b = true → ∀ a, H a = none → ts a cls d (endM i D) (stM i a σ) H) ∧ (b = false → wMix K Wout D r cls d σ H)
inductive HdsM (X : Cx) : List ExceptHandler → List Cls1 → Prop
  | nil : HdsM X [] []
  | plain {x : Str} {c : Value} {ts : SuR} {b0 : Stmt} {suite : List Stmt} {np p2 : Pos} {hds : List ExceptHandler} {l : List Cls1} (hc : Names X x c)
      (su : ∀ (a : Addr) (oe : Obj) (cls : Value) (d : Option Addr) (pn : List (Addr × Obj)), Zc cls d oe → (∃ vs, oe.data = .fields vs) → PSs (X.suite a ((a, oe) :: pn)) (b0 :: suite) (ts a cls d))
      (r : HdsM X hds l) : HdsM X (.ExceptHandler (some (.Name x np)) none (b0 :: suite) p2 :: hds) ((c, none, ts) :: l)
  | named {x n : Str} {i : Nat} {c : Value} {ts : SuR} {b0 : Stmt} {suite : List Stmt} {np p2 : Pos} {hds : List ExceptHandler} {l : List Cls1} (hN : X.N.Nodup) (hi : X.N[i]? = some n) (hl : X.env.kindOf n = some .local) (hc : Names X x c)
      (su : ∀ (a : Addr) (oe : Obj) (cls : Value) (d : Option Addr) (pn : List (Addr × Obj)), Zc cls d oe → (∃ vs, oe.data = .fields vs) → PSs (X.suite a ((a, oe) :: pn)) (b0 :: suite) (ts a cls d))
      (r : HdsM X hds l) : HdsM X (.ExceptHandler (some (.Name x np)) (some n) (b0 :: suite) p2 :: hds) ((c, some i, ts) :: l)
section
variable {X : Cx} {body : List Stmt} {h0 : ExceptHandler} {hds : List ExceptHandler} {l : List Cls1} {pos : Pos} {tb : WX → TS} {Wout : WX}
theorem ps_try_mix (hs : X.stack = X.env :: X.outer) (hf : X.env.frame = some X.env.locals) (tk : Takes X Wout)
    (hb : ∀ (W : WX) (pn : List (Addr × Obj)) (xe : Value → Shared → Prop), Takes (X.tr pn xe) W → PassesOwn (model X.prog X.w) X.A X.env xe → PSs (X.tr pn xe) body (tb W))
    (hh : HdsM X (h0 :: hds) l) : PS X (.Try body (h0 :: hds) [] [] pos) (fun D σ H => tb (wMix X.K Wout D l) D σ H) := by
  refine ⟨fun pins s σ H D I h => ?_⟩
  have ok := I.ok
  have fr0 : X.A.frames = some (X.env :: X.outer) := ok.frames.trans (by rw [hs])
  refine wpAny_Try_except ?_
  refine wpAny_mono ((hb (wMix X.K Wout D l) (X.pn ++ pins) (fun e sa => wpAny (model X.prog X.w) X.A (noteFrame e X.env) (fun _ sb => wpAny (model X.prog X.w) X.A (setFlight e none) (fun _ sc =>
    wpAny (model X.prog X.w) X.A (handleBy e X.env (h0 :: hds)) (SP X pins D) X.xe sc) X.xe sb) X.xe sa) (fun u s2 air => ?_) PassesOwn.looking).run [] s σ H D (I.toTry _) h) (fun f s1 hsp => ?_) (fun e s1 he => he)
  · obtain ⟨a, B, sI, pins2, σ2, H2, cls, d, rfl, J0, nb, up, sky, na, os, ag, w⟩ := air
    have J := J0.ofTry ok
    rw [hs] at sky
    show wpAny (model X.prog X.w) X.A (noteFrame (.ref a) X.env) _ _ _
    refine Sky.land Zc.steady fr0 hf sky fun g3 fl3 up3 => ?_
    have J3 : Inv X pins σ2 H2 { s2 with heap := g3 } := J.landed nb fl3.1 (up.trans up3) os ag
    obtain ⟨o3, vs3, e3, z3, d3⟩ := fl3.there
    have nfr : a ∉ frs (X.env :: X.outer) := fun hm => by
      obtain ⟨_, o', e', hnf⟩ := fl3.2.2.1.mem hm
      rw [e3] at e'
      cases e'
      exact hnf _ d3
    have nL : a ≠ X.env.locals := fun z => nfr (List.mem_filterMap.mpr ⟨X.env, List.mem_cons_self, by rw [hf, z]⟩)
    have nF : a ∉ X.fs := fun hm => by
      obtain ⟨e, he, q⟩ := List.mem_filterMap.mp hm
      exact nfr (List.mem_filterMap.mpr ⟨e, List.mem_cons_of_mem _ he, q⟩)
    have S3 := J3.suite e3 d3 na nL nF
    have look : ∀ {x : Str} {np : Pos} {c : Value} {Q : Value → Shared → Prop} {E : Value → Shared → Prop}, Names X x c → Q c { s2 with heap := g3 } → wpAny (model X.prog X.w) (X.A.mark (some (.ref a))) (eval (.Name x np) X.env) Q E { s2 with heap := g3 } := fun {x np c Q E} hc q => by
      obtain ⟨hg, hdbg, hm | ⟨hm, hv, hnn⟩⟩ := hc
      · exact ld_glob (X := X.suite a ((a, o3) :: (X.pn ++ pins))) S3 hg hm q hdbg
      · exact ld_blt (X := X.suite a ((a, o3) :: (X.pn ++ pins))) S3 hg hm hv q hnn hdbg
    have LT : PySem.W.Looks (model X.prog X.w) g3 (typeOf (.ref a)) cls := fun A Q E s k q => wpAny_typeOf_ref (k _ _ e3) (by rw [z3.1]; exact q)
    have go : ∀ {hds2 : List ExceptHandler} {l2 : List Cls1}, HdsM X hds2 l2 → wMix X.K Wout D l2 cls d σ2 H2 →
        wpAny (model X.prog X.w) X.A (handleBy (.ref a) X.env hds2) (SP X pins D) X.xe { s2 with heap := g3 } := by
      intro hds2 l2 hk
      induction hk with
      | nil =>
        intro w
        refine wpAny_handleBy_nil ?_
        obtain ⟨k1, k2, k3, oe, vs, T, oT, tr, he, hz, hd, h1, hr⟩ := id fl3
        unfold PySem.passOn
        refine wpAny_bind (wpAny_field he hd h1 ?_)
        rw [if_neg (show ¬ ((Value.ref T == Value.none) = true) from by simp)]
        have fin : wpAny (model X.prog X.w) X.A (setFlight (.ref a) X.env.frame) (fun _ s4 => wpAny (model X.prog X.w) X.A (throw (.ref a) : Sem Flow) (SP X pins D) X.xe s4) X.xe { s2 with heap := g3 } := by
          rw [hf]
          refine HandSPX.setFlight_upZ fl3 fun g4 hh4 up4 => wpAny_throw (tk _ _ ?_)
          exact ⟨a, B, sI, pins, σ2, H2, cls, d, rfl, J, nb, (up.trans up3).trans up4, .inr (.inr (by rw [hs]; exact hh4)), na, os, ag, w⟩
        first
          | exact wpAny_bind (wpAny_pure (wpAny_bind fin))
          | exact wpAny_bind fin
      | @plain x c ts b0 suite np p2 hds3 l3 hc su r ih =>
        intro w
        obtain ⟨b, hb1, hyes, hno⟩ := w
        refine wpAny_handleBy_cons (codeAny_handlers_test ?_) (by intro q; cases q)
        refine look hc ((PySem.W.exm_one (M := model X.prog X.w) J3.kIn LT hb1).here ?_)
        cases b with
        | true =>
          refine codeAny_handlers_suite ?_
          refine HandSPX.lands_againZ fl3 fun g4 fl4 up4 => ?_
          have J4 : Inv X pins σ2 H2 { s2 with heap := g4 } := J.landed nb fl4.1 ((up.trans up3).trans up4) os ag
          obtain ⟨o4, vs4, e4, z4, d4⟩ := fl4.there
          refine wpAny_mono ((su a o4 cls d (X.pn ++ pins) z4 ⟨_, d4⟩).run [] _ _ H2 _ (J4.suite e4 d4 na nL nF) (hyes rfl a na)) (fun f s6 hsp => ?_) (fun _ _ z => False.elim z)
          cases f with
          | next => obtain ⟨_, _, S6, q6⟩ := hsp; exact ⟨_, _, S6.unsuite ok, q6⟩
          | brk => obtain ⟨_, _, S6, q6⟩ := hsp; exact ⟨_, _, S6.unsuite ok, q6⟩
          | cont => obtain ⟨_, _, S6, q6⟩ := hsp; exact ⟨_, _, S6.unsuite ok, q6⟩
          | ret u => obtain ⟨_, _, _, S6, r6, q6⟩ := hsp; exact ⟨_, _, _, S6.unsuite ok, r6, q6⟩
        | false =>
          show wpAny _ X.A (handleBy (.ref a) X.env hds3) _ _ _
          exact ih (hno rfl)
      | @named x n i c ts b0 suite np p2 hds3 l3 hN hi hln hc su r ih =>
        intro w
        obtain ⟨b, hb1, hyes, hno⟩ := w
        refine wpAny_handleBy_cons (codeAny_handlers_test ?_) (by intro q; cases q)
        refine look hc ((PySem.W.exm_one (M := model X.prog X.w) J3.kIn LT hb1).here ?_)
        cases b with
        | true =>
          refine codeAny_handlers_suite_as ?_
          refine HandSPX.lands_againZ fl3 fun g4 fl4 up4 => ?_
          have J4 : Inv X pins σ2 H2 { s2 with heap := g4 } := J.landed nb fl4.1 ((up.trans up3).trans up4) os ag
          obtain ⟨o4, vs4, e4, z4, d4⟩ := fl4.there
          refine store_ok (X := X.suite a ((a, o4) :: (X.pn ++ pins))) (v := .ref a) (J4.suite e4 d4 na nL nF) hN hi (.inl hln) rfl (fun s5 S5 => ?_) (.inr hln)
          refine wpAny_mono ((su a o4 cls d (X.pn ++ pins) z4 ⟨_, d4⟩).run [] s5 _ H2 _ S5 (hyes rfl a na)) (fun f s6 hsp => ?_) (fun _ _ z => False.elim z)
          have away : ∀ {σ6 : L2.St} {H6 : Hp} {Q : Shared → Prop}, Inv (X.suite a ((a, o4) :: (X.pn ++ pins))) [] σ6 H6 s6 → (∀ s7, Inv X pins (σ6.set i none) H6 s7 → Q s7) →
              wpAny (model X.prog X.w) X.A (do bindName X.env n .none; unbindBehindTheSuite X.env n p2) (fun _ s7 => Q s7) X.xe s6 := fun {σ6 H6 Q} S6 hq => gone_ok (S6.unsuite ok) hN hi hln hq
          cases f with
          | next => obtain ⟨_, _, S6, q6⟩ := hsp; exact away S6 fun s7 J7 => ⟨_, _, J7, q6⟩
          | brk => obtain ⟨_, _, S6, q6⟩ := hsp; exact away S6 fun s7 J7 => ⟨_, _, J7, q6⟩
          | cont => obtain ⟨_, _, S6, q6⟩ := hsp; exact away S6 fun s7 J7 => ⟨_, _, J7, q6⟩
          | ret u => obtain ⟨_, _, _, S6, r6, q6⟩ := hsp; exact away S6 fun s7 J7 => ⟨_, _, _, J7, r6, q6⟩
        | false =>
          show wpAny _ X.A (handleBy (.ref a) X.env hds3) _ _ _
          exact ih (hno rfl)
    exact go hh w
  · cases f with
    | next => obtain ⟨_, _, S6, q6⟩ := hsp; exact wpAny_execs_nil ⟨_, _, S6.ofTry ok, q6⟩
    | brk => obtain ⟨_, _, S6, q6⟩ := hsp; exact ⟨_, _, S6.ofTry ok, q6⟩
    | cont => obtain ⟨_, _, S6, q6⟩ := hsp; exact ⟨_, _, S6.ofTry ok, q6⟩
    | ret u => obtain ⟨_, _, _, S6, r6, q6⟩ := hsp; exact ⟨_, _, _, S6.ofTry ok, r6, q6⟩
end
end Rz

namespace Rz
open PySem PySem.Spec PyProof.Rows L2
/-! ### calls whose exceptions are wished for at the caller's slots -/
abbrev EX := L2.St → XK
/-- nothing is let out -/
abbrev EN : EX := fun _ => E0
theorem atN {X : Cx} (σ : L2.St) : PassesAt (L2.CX X.prog X.w) X σ (EN σ) := fun _ _ _ _ _ _ h => by
  obtain ⟨_, _, _, _, _, _, _, _, _, _, _, _, z⟩ := h
  exact z.elim
section
variable {X : Cx} {CX : CXT} {k : Nat} {f C : Addr} {fd : FuncData} {ps : List Str} {sp : Sp} {dvs : List V} {ds : List Value} {E : EX} {x m : Str} {p pos apos : Pos} {e o : Expr} {es : List Expr} {ta : TE} {t : TA}
theorem run_X {pins : List (Addr × Obj)} {σ : L2.St} {H : Hp} {s : Shared} {Q : VK} {us : List Value} {vs : List V} {A : Around} (F : FnOk X.prog X.w X.K X.mg X.base CX k f fd ps sp) (hr : Room k A) (hfr : A.frames = X.A.frames) (hb : Binds X.K fd ps ds) (hd : Vals dvs ds) (hx : PassesAt CX X σ (E σ))
    (I : Inv X pins σ H s) (r : Vals vs us) (h : sp (vs ++ dvs) H Q (E σ)) : codeAny (model X.prog X.w) A (.call (.ref f) ⟨us, []⟩) (fun q s' => match q with
      | .ok (.ret u) => EP X pins σ Q u s'
      | .ok _ => False
      | .error er => X.xe er s') s := by
  have e0 : Env0 X.prog X.w X.K X.mg X.base A X.stack s H := by
    have z := I.env0
    exact ⟨by rw [hfr]; exact z.frames, z.mod, z.bs, z.bsz, z.funs, z.frf, z.hok, z.bare⟩
  have hz := F.len _ _ _ _ h
  rw [(r.append hd).length] at hz
  refine codeAny_mono (F.run A X.stack s H ⟨us, []⟩ (us ++ ds) (vs ++ dvs) Q (E σ) hr e0 (hb s us I.kIn hz) (r.append hd) h) fun q s' hq => ?_
  match q, hq with
  | .error er, hq => exact hx pins H s er s' I hq
  | .ok (.ret u), hq => exact I.after hq
  | .ok .next, hq => exact hq
  | .ok .brk, hq => exact hq
  | .ok .cont, hq => exact hq
theorem ended {pins : List (Addr × Obj)} {σ : L2.St} {Q : VK} {q : Result} {s' : Shared} (h : match q with
      | .ok (.ret u) => EP X pins σ Q u s'
      | .ok _ => False
      | .error er => X.xe er s') : wants (EP X pins σ Q) X.xe q s' := by
  match q, h with
  | .error er, h => exact h
  | .ok (.ret u), h => exact h
  | .ok .next, h => exact h.elim
  | .ok .brk, h => exact h.elim
  | .ok .cont, h => exact h.elim
theorem run_XC {pins : List (Addr × Obj)} {σ : L2.St} {H : Hp} {s : Shared} {Q : VK} {us : List Value} {vs : List V} (F : FnOk X.prog X.w X.K X.mg X.base CX k f fd ps sp) (hr : Room k X.A) (hb : Binds X.K fd ps ds) (hd : Vals dvs ds) (hx : PassesAt CX X σ (E σ))
    (I : Inv X pins σ H s) (r : Vals vs us) (h : sp (vs ++ dvs) H Q (E σ)) : wpAny (model X.prog X.w) X.A (call (.ref f) us) (EP X pins σ Q) X.xe s :=
  wpAny_call (codeAny_mono (run_X F hr rfl hb hd hx I r h) fun _ _ hq => ended hq)
/-- f(..) -/
def tFn (sp : Sp) (dvs : List V) (E : EX) (t : TA) : TE := fun σ H Q => t σ H fun vs H1 => sp (vs ++ dvs) H1 Q (E σ)
theorem pe_fn (F : FnOk X.prog X.w X.K X.mg X.base CX k f fd ps sp) (hr : Room k X.A) (hg : Gl X x) (hm : X.mg x = some (.ref f)) (hk : PySem.W.keepIn X.K (.ref f) = true) (hb : Binds X.K fd ps ds) (hd : Vals dvs ds) (hx : ∀ σ, PassesAt CX X σ (E σ))
    (ha : PA X (e :: es) t) (hdb : (x == ("__debug__" : Str)) = false := by decide) (he : starEach (e :: es) X.env = (false, eval e X.env) :: starEach es X.env := by rfl) (hpl : (backTo pos (starEach es X.env)).any (·.1) = false := by rfl) :
    PE X (.Call (.Name x p) (e :: es) [] pos) (tFn sp dvs E t) := ⟨fun pins s σ H Q I h =>
  wpAny_Call_Name_kw (ld_glob I hg hm (PySem.W.callWith_K (h₀ := X.base) I.ok.mod.kin hk (thn (ha.run pos pins s σ H _ I h) fun us s1 ⟨vs, H1, J, r, q⟩ => ⟨J.kIn, run_XC F hr hb hd (hx σ) J r q⟩) he hpl) hdb)⟩
theorem pe_fn0 (F : FnOk X.prog X.w X.K X.mg X.base CX k f fd ps sp) (hr : Room k X.A) (hg : Gl X x) (hm : X.mg x = some (.ref f)) (hk : PySem.W.keepIn X.K (.ref f) = true) (hb : Binds X.K fd ps ds) (hd : Vals dvs ds) (hx : ∀ σ, PassesAt CX X σ (E σ))
    (hdb : (x == ("__debug__" : Str)) = false := by decide) : PE X (.Call (.Name x p) [] [] pos) (tFn sp dvs E tNil) := ⟨fun pins s σ H Q I h =>
  wpAny_Call_Name_kw (ld_glob I hg hm (PySem.W.callWith_K0 I.kIn hk (run_XC (us := []) F hr hb hd (hx σ) I .nil h)) hdb)⟩
/-- o.m(..) -/
def tMt (C : Addr) (m : Str) (sp : Sp) (dvs : List V) (E : EX) (ta : TE) (t : TA) : TE := fun σ H Q => ta σ H fun x H1 => ∃ a dx fs, x = .ref a ∧ H1 a = some (.ins C dx fs) ∧ fs.lookup m = none ∧
  t σ H1 fun vs H2 => sp (x :: (vs ++ dvs)) H2 Q (E σ)
theorem pe_mt {pl : Sem Bool} (he : PE X o ta) (c : Cls X.K C) (hm : Meth X.K C m f) (F : FnOk X.prog X.w X.K X.mg X.base CX k f fd ps sp) (hr : Room k X.A) (hb : Binds X.K fd ps ds) (hd : Vals dvs ds) (hx : ∀ σ, PassesAt CX X σ (E σ)) (ha : PA X (e :: es) t)
    (hst : starEach (e :: es) X.env = (false, eval e X.env) :: starEach es X.env := by rfl) (hpl : (backTo pos (starEach es X.env)).any (·.1) = false := by rfl)
    (ht : eval (.Call (.Attribute o m apos) (e :: es) [] pos) X.env = (do
      let ov ← eval o X.env
      standAt apos.atName
      let (f, first) ← holding [ov] (getMethod ov m pl)
      callWith pos f first (backTo pos (starEach (e :: es) X.env)) (backToKw pos (keywordEach [] X.env))) := by rfl) :
    PE X (.Call (.Attribute o m apos) (e :: es) [] pos) (tMt C m sp dvs E ta t) := by
  refine ⟨fun pins s σ H Q I h => PySem.W.methodCall_KW (pl := pl) (thn (he.run pins s σ H _ I h) fun u s1 hh => ?_) ht⟩
  obtain ⟨x, H1, J, rx, a, dx, fs, rfl, ea, l, q⟩ := hh
  obtain rfl : u = Value.ref a := rx
  refine getmeth_ok J ea c hm l (PySem.W.callWith_K (first := [.ref a]) (h₀ := X.base) I.ok.mod.kin hm.kp (thn (ha.run pos pins s1 σ H1 _ J q) fun us s2 ⟨vs, H2, J2, r, q2⟩ => ⟨J2.kIn, ?_⟩) hst hpl)
  exact run_XC (us := .ref a :: us) (vs := .ref a :: vs) F hr hb hd (hx σ) J2 (.cons rfl r) q2
theorem pe_mt0 {pl : Sem Bool} (he : PE X o ta) (c : Cls X.K C) (hm : Meth X.K C m f) (F : FnOk X.prog X.w X.K X.mg X.base CX k f fd ps sp) (hr : Room k X.A) (hb : Binds X.K fd ps ds) (hd : Vals dvs ds) (hx : ∀ σ, PassesAt CX X σ (E σ))
    (ht : eval (.Call (.Attribute o m apos) [] [] pos) X.env = (do
      let ov ← eval o X.env
      standAt apos.atName
      let (f, first) ← holding [ov] (getMethod ov m pl)
      callWith pos f first (backTo pos (starEach [] X.env)) (backToKw pos (keywordEach [] X.env))) := by rfl) :
    PE X (.Call (.Attribute o m apos) [] [] pos) (tMt C m sp dvs E ta tNil) := by
  refine ⟨fun pins s σ H Q I h => PySem.W.methodCall_KW (pl := pl) (thn (he.run pins s σ H _ I h) fun u s1 hh => ?_) ht⟩
  obtain ⟨x, H1, J, rx, a, dx, fs, rfl, ea, l, q⟩ := hh
  obtain rfl : u = Value.ref a := rx
  refine getmeth_ok J ea c hm l (PySem.W.callWith_K0 (first := [.ref a]) J.kIn hm.kp ?_)
  exact run_XC (us := [.ref a]) (vs := [.ref a]) F hr hb hd (hx σ) J (.cons rfl .nil) q
/-- C(..): a new instance, then its __init__ -/
def tMk (C : Addr) (sp : Sp) (dvs : List V) (E : EX) (t : TA) : TE := fun σ H Q => t σ H fun vs H1 => ∀ x dx, H1 x = none → H1 dx = none → dx ≠ x →
  sp (.ref x :: (vs ++ dvs)) (upd (upd H1 dx (.own x)) x (.ins C dx [])) (fun v H2 => v = .non ∧ Q (.ref x) H2) (E σ)
theorem run_mk {pins : List (Addr × Obj)} {σ : L2.St} {H : Hp} {s : Shared} {Q : VK} {us : List Value} {vs : List V} (M : Mk X.K C f) (F : FnOk X.prog X.w X.K X.mg X.base CX k f fd ps sp) (hr : Room (k + 1) X.A) (hb : Binds X.K fd ps ds) (hd : Vals dvs ds)
    (hx : PassesAt CX X σ (E σ)) (I : Inv X pins σ H s) (r : Vals vs us)
    (h : ∀ x dx, H x = none → H dx = none → dx ≠ x → sp (.ref x :: (vs ++ dvs)) (upd (upd H dx (.own x)) x (.ins C dx [])) (fun v H2 => v = .non ∧ Q (.ref x) H2) (E σ)) :
    wpAny (model X.prog X.w) X.A (call (.ref C) us) (EP X pins σ Q) X.xe s := by
  have hq := h (s.heap.objs.size + 1) s.heap.objs.size (I.hok.fresh (Nat.le_succ _)) (I.hok.fresh (Nat.le_refl _)) (Nat.ne_of_lt (Nat.lt_succ_self _))
  have J := Inv.made (C := C) I
  refine wpAny_call (make_map (f := f) I.kIn M.makes M.init (beq_iff_eq.mp M.fn) (codeAny_mono (run_X (vs := .ref (s.heap.objs.size + 1) :: vs) (us := .ref (s.heap.objs.size + 1) :: us) F (hr.make C us []) ((J.env0.make C us []).frames.trans J.ok.frames.symm) hb hd hx J (.cons rfl r) hq) fun q s' hq' => ?_))
  match q, hq' with
  | .error er, hq' => exact hq'
  | .ok (.ret u), hq' =>
    obtain ⟨v, H2, J2, rv, ev, q3⟩ := hq'
    subst ev
    exact ⟨rv, ⟨V.ref (s.heap.objs.size + 1), H2, J2, rfl, q3⟩⟩
  | .ok .next, hq' => exact hq'.elim
  | .ok .brk, hq' => exact hq'.elim
  | .ok .cont, hq' => exact hq'.elim
theorem pe_mk (M : Mk X.K C f) (F : FnOk X.prog X.w X.K X.mg X.base CX k f fd ps sp) (hr : Room (k + 1) X.A) (hg : Gl X x) (hm : X.mg x = some (.ref C)) (hb : Binds X.K fd ps ds) (hd : Vals dvs ds) (hx : ∀ σ, PassesAt CX X σ (E σ))
    (ha : PA X (e :: es) t) (hdb : (x == ("__debug__" : Str)) = false := by decide) (he : starEach (e :: es) X.env = (false, eval e X.env) :: starEach es X.env := by rfl) (hpl : (backTo pos (starEach es X.env)).any (·.1) = false := by rfl) :
    PE X (.Call (.Name x p) (e :: es) [] pos) (tMk C sp dvs E t) := ⟨fun pins s σ H Q I h =>
  wpAny_Call_Name_kw (ld_glob I hg hm (PySem.W.callWith_K (h₀ := X.base) I.ok.mod.kin M.kp (thn (ha.run pos pins s σ H _ I h) fun us s1 ⟨vs, H1, J, r, q⟩ => ⟨J.kIn, run_mk M F hr hb hd (hx σ) J r q⟩) he hpl) hdb)⟩
theorem pe_mk0 (M : Mk X.K C f) (F : FnOk X.prog X.w X.K X.mg X.base CX k f fd ps sp) (hr : Room (k + 1) X.A) (hg : Gl X x) (hm : X.mg x = some (.ref C)) (hb : Binds X.K fd ps ds) (hd : Vals dvs ds) (hx : ∀ σ, PassesAt CX X σ (E σ))
    (hdb : (x == ("__debug__" : Str)) = false := by decide) : PE X (.Call (.Name x p) [] [] pos) (tMk C sp dvs E tNil) := ⟨fun pins s σ H Q I h =>
  wpAny_Call_Name_kw (ld_glob I hg hm (PySem.W.callWith_K0 I.kIn M.kp (run_mk (us := []) M F hr hb hd (hx σ) I .nil h)) hdb)⟩
/-- e.f, a property -/
def tPr (C : Addr) (sp : Sp) (E : EX) (ta : TE) : TE := fun σ H Q => ta σ H fun x H1 => ∃ a dx fs, x = .ref a ∧ H1 a = some (.ins C dx fs) ∧ sp [.ref a] H1 Q (E σ)
theorem pe_pr {p g : Addr} {fn : Str} (he : PE X e ta) (c : Cls X.K C) (hp : PropOf X.K C fn p g) (F : FnOk X.prog X.w X.K X.mg X.base CX k g fd ps sp) (hr : Room (k + 1) X.A) (hb : Binds X.K fd ps []) (hx : Passes CX X.nox E0)
    (hab : attributeBase e fn X.env (eval e X.env) = eval e X.env := by rfl) : PE X (.Attribute e fn pos) (tPr C sp EN ta) := by
  have z := pe_prop (pos := pos) he c hp F hr hb .nil hx hab
  exact z
end
/-- .. nothing leaves -/
theorem passN {X : Cx} : Passes (L2.CX X.prog X.w) X E0 := fun _ σ H s e s' I h => atN (X := X) σ [] H s e s' (I.pins_of (pins' := []) fun p hp => by cases hp) h
end Rz

namespace Rz
open PySem PySem.Spec PyProof.Rows L2
/-! ### short words -/
/-- all but what stands at D is as it was -/
def But (D : List Addr) (H H' : Hp) : Prop := ∀ b o, b ∉ D → H b = some o → H' b = some o
theorem But.refl (D : List Addr) (H : Hp) : But D H H := fun _ _ _ h => h
theorem But.trans {D : List Addr} {H H1 H2 : Hp} (a : But D H H1) (b : But D H1 H2) : But D H H2 := fun c o n h => b c o n (a c o n h)
theorem But.mono {D D' : List Addr} {H H' : Hp} (a : But D H H') (h : ∀ b ∈ D, b ∈ D') : But D' H H' := fun c o n e => a c o (fun z => n (h c z)) e
theorem But.of {D : List Addr} {H H' : Hp} (h : Same H H') : But D H H' := fun b o _ e => h b o e
theorem But.same {H H' : Hp} (h : But [] H H') : Same H H' := fun b o e => h b o (by simp) e
theorem But.at {D : List Addr} {H H' : Hp} {b : Addr} {o : HO} (h : But D H H') (e : H b = some o) (n : b ∉ D := by simp) : H' b = some o := h b o n e
theorem But.upd {D : List Addr} {H H' : Hp} {p : Addr} {o : HO} (h : But D H H') (hp : p ∈ D ∨ H p = none) : But D H (upd H' p o) := fun b u n e => by
  have nb : b ≠ p := fun z => by
    subst z
    rcases hp with hp | hp
    · exact n hp
    · rw [hp] at e; cases e
  rw [upd_ne nb]
  exact h b u n e
theorem Same.upd {H H' : Hp} {p : Addr} {o : HO} (h : Same H H') (hp : H p = none) : Same H (upd H' p o) := fun b u e => by
  have nb : b ≠ p := fun z => by
    subst z
    rw [hp] at e; cases e
  rw [upd_ne nb]
  exact h b u e
theorem Same.new {H H' : Hp} {p : Addr} {o : HO} (h : Same H H') (hp : H' p = none) : Same H (L2.upd H' p o) := Rz.Same.upd h (h.free hp)
theorem Same.seqT {K : PySem.W.Frag} {H H' : Hp} {a : Addr} {xs : List V} (e : Same H H') (h : SqT K H a xs) : SqT K H' a xs := by
  rcases h with (h | ⟨o, h⟩) | h
  · exact .inl (.inl (e _ _ h))
  · exact .inl (.inr ⟨o, e _ _ h⟩)
  · exact .inr h
theorem But.free {D : List Addr} {H H' : Hp} (e : But D H H') {l : Addr} (n : l ∉ D) (h : H' l = Option.none) : H l = Option.none := by
  cases q : H l with
  | none => rfl
  | some o => rw [e l o n q] at h; cases h
section
variable {P : Program} {w : World} {K : PySem.W.Frag} {mg : Str → Option Value} {base : Heap}
/-- a def that lets nothing out -/
theorem Fun.okN {x qual : Str} {st : Stmt} {f : Addr} {fd : FuncData} {N ps : List Str} {k : Nat} {sp : Sp} (F : Fun K x qual st f fd) (S : FnScope N ps (defScope st)) (len : ∀ vs H Q E, sp vs H Q E → vs.length = ps.length)
    (hb : ∀ (cdv : Value) (A : Around) (outer : List Env) (s : Shared) (H : Hp) (vs : List V) (Q : VK) (E : XK), Room k (A.deeper (envOfC qual (defScope st) s.heap.objs.size f cdv)) → sp vs H Q E →
      ∃ t, PSs (cxOf (L2.CX P w) P w K mg base N qual (defScope st) f cdv A outer s H E).nox (defBody st) t ∧ t { nx := fun _ H' => Q .non H', rt := Q } (start N vs) H) : FnOk P w K mg base (L2.CX P w) (k + 1) f fd ps sp :=
  F.okX S len fun cdv A outer s H vs Q E hr h => let ⟨t, h1, h2⟩ := hb cdv A outer s H vs Q E hr h; ⟨t, h1.nox, h2⟩
end
/-! ### the law's draws -/
def Dr (H : Hp) (d : Addr) : Prop := ∃ ns : List Int, H d = some (.lst (ns.map V.int)) ∧ ns.length ≤ 4000
theorem Dr.same {H H' : Hp} {d : Addr} (h : Dr H d) (e : Same H H') : Dr H' d := let ⟨ns, h1, h2⟩ := h; ⟨ns, e _ _ h1, h2⟩
theorem mapi_get {ns : List Int} {i : Nat} {y : V} (h : (ns.map V.int)[i]? = some y) : ∃ u, ns[i]? = some u ∧ y = .int u := by
  rw [List.getElem?_map] at h
  cases e : ns[i]? with
  | none => rw [e] at h; cases h
  | some u => rw [e] at h; exact ⟨u, rfl, (Option.some.inj h).symm⟩
theorem no_cx : ∀ {P : Program} (w : World) (H : Hp) (s : Shared) (e : Value) (s' : Shared), L2.CX P w [] H s (fun _ _ _ => False) e s' → False := fun _ _ _ _ _ h => by
  obtain ⟨_, _, _, _, _, _, _, _, _, _, _, _, z⟩ := h
  exact z
end Rz
namespace Rz
open PySem PySem.Spec PyProof.Rows L2
theorem joinL_nil : ∀ ps : List (List Nat), TL.joinL [] ps = ps.flatten
  | [] => rfl
  | [p] => by simp [TL.joinL]
  | p :: q :: r => by
    have ih := joinL_nil (q :: r)
    show p ++ ([] ++ TL.joinL [] (q :: r)) = _
    rw [ih]
    simp
theorem join0 (ys : List Str) : (Txt.join "" ys).cps.toList = (ys.map fun y => y.cps.toList).flatten := by
  rw [TL.join_eq]
  exact (TL.tl_join "" ys).trans (joinL_nil _)
theorem join0_len (ys : List Str) : (Txt.join "" ys).length = (ys.map fun y => y.length).sum := by
  have h := congrArg List.length (join0 ys)
  rw [List.length_flatten, List.map_map] at h
  exact h
/-- every sign of x is one of z -/
def Over (z x : Str) : Prop := ∀ c ∈ x.cps.toList, c ∈ z.cps.toList
theorem over_join {z : Str} {ys : List Str} (h : ∀ y ∈ ys, Over z y) : Over z (Txt.join "" ys) := fun c hc => by
  rw [join0, List.mem_flatten] at hc
  obtain ⟨l, hl, hc⟩ := hc
  obtain ⟨y, hy, rfl⟩ := List.mem_map.mp hl
  exact h y hy c hc
theorem sum_ones : ∀ {ys : List Str}, (∀ y ∈ ys, y.length = 1) → (ys.map fun y => y.length).sum = ys.length
  | [], _ => rfl
  | y :: r, h => by
    rw [List.map_cons, List.sum_cons, sum_ones (ys := r) fun z hz => h z (List.mem_cons_of_mem _ hz), h y List.mem_cons_self, List.length_cons]
    omega
theorem atI_in {α : Type} {xs : List α} {r : Int} (h0 : 0 ≤ r) (h1 : r < xs.length) : ∃ v, v ∈ xs ∧ atI xs r = some v := by
  obtain ⟨n, rfl⟩ := Int.eq_ofNat_of_zero_le h0
  have hn : n < xs.length := by omega
  exact ⟨xs[n], List.getElem_mem hn, atI_nat (List.getElem?_eq_getElem hn)⟩
theorem yesT {σ : L2.St} {H : Hp} {A B : Hp → Prop} (h : A H) : tYes σ H fun b H3 => if b = true then A H3 else B H3 := by
  show (if true = true then A H else B H)
  rw [if_pos rfl]
  exact h
theorem len_list (z : Str) : z.cps.toList.length = z.length := rfl
end Rz
namespace Rz
open PySem PySem.Spec PyProof.Rows L2
/-! ### signs -/
def abc : Str := "abcdefghijklmnopqrstuvwxyz"
def oddC (c : Nat) : Bool := !decide (c ∈ abc.cps.toList)
/-- the place of the first character that is no sign -/
def fo (z : Str) : Option Nat := z.cps.toList.findIdx? oddC
def foI (z : Str) : Int := match fo z with
  | some i => (i : Int)
  | none => -1
theorem fo_some {z : Str} {i : Nat} {c : Nat} (h : z.cps.toList[i]? = some c) (ho : oddC c = true) (hb : ∀ (j c : Nat), j < i → z.cps.toList[j]? = some c → oddC c = false) : fo z = some i := by
  obtain ⟨hi, hc⟩ := List.getElem?_eq_some_iff.mp h
  refine List.findIdx?_eq_some_iff_getElem.mpr ⟨hi, by rw [hc]; exact ho, fun j hj => ?_⟩
  have e := hb j _ hj (List.getElem?_eq_getElem (Nat.lt_trans hj hi))
  rw [e]
  exact Bool.false_ne_true
theorem fo_none {z : Str} (h : ∀ (j c : Nat), z.cps.toList[j]? = some c → oddC c = false) : fo z = none :=
  List.findIdx?_eq_none_iff.mpr fun c hc => by
    obtain ⟨j, hj, e⟩ := List.getElem_of_mem hc
    exact h j c (by rw [List.getElem?_eq_getElem hj, e])
theorem fo_lt {z : Str} {i : Nat} (h : fo z = some i) : i < z.length := by
  obtain ⟨hi, _⟩ := List.findIdx?_eq_some_iff_getElem.mp h
  exact hi
theorem log_small {n : Int} {k : Nat} (h : n.natAbs < 2 ^ k) (hk : k ≤ 1919) : n.natAbs.log2 < 1920 := by
  by_cases h0 : n.natAbs = 0
  · rw [h0]
    decide
  · exact Nat.lt_of_lt_of_le ((Nat.log2_lt h0).mpr h) (by omega)
theorem log_nat {i : Nat} (h : i < 2 ^ 64) : (i : Int).natAbs.log2 < 1920 := log_small (k := 64) (by simpa using h) (by decide)
end Rz
namespace Rz
open PySem PySem.Spec PyProof.Rows L2
/-- what is asked where such an exception is made, and what is known then -/
theorem raise_fld {C : Addr} {fld : Str} {n : Int} {H1 : Hp} {Q : XK} (hn : n.natAbs.log2 < 1920) (q : ∀ H' d, Same H1 H' → H1 d = none → H' d = some (.xd [(fld, .int n)]) → Q (.ref C) (some d) H') :
    ∀ a, H1 a = none → spExI C fld (.ref a :: ([V.int n] ++ [])) (upd H1 a (exo a C none))
      (fun v H2 => v = .non ∧ ∃ (d : Addr) (fs : List (Str × V)), H2 a = some (exo a C (some d)) ∧ H2 d = some (exd d fs) ∧ H1 d = none ∧ Q (.ref C) (some d) (upd (del H2 a) d (.xd fs))) (fun _ _ _ => False) := fun a ha => by
  refine ⟨a, n, rfl, hn, upd_same, fun dx hdx nda => ⟨rfl, dx, [(fld, .int n)], by rw [upd_same], ?_, ?_, ?_⟩⟩
  · rw [upd_ne nda, upd_same]
  · rw [upd_ne nda] at hdx
    exact hdx
  · have hd1 : H1 dx = none := by
      rw [upd_ne nda] at hdx
      exact hdx
    refine q _ dx (fun b o e => ?_) hd1 upd_same
    have nba : b ≠ a := ne_of_none e ha
    have nbd : b ≠ dx := ne_of_none e hd1
    rw [upd_ne nbd, del_ne nba, upd_ne nba, upd_ne nbd, upd_ne nba]
    exact e
end Rz

namespace Rz
open PySem PySem.Spec PyProof.Rows L2
/-! ### data: lists of ints -/
abbrev dInts (ns : List Int) : PyData := .list (ns.map PyData.int)
theorem all_ints_lay : ∀ ns : List Int, PyData.canLayAll0 (ns.map PyData.int) = true
  | [] => rfl
  | n :: ns => by simp only [List.map_cons, PyData.canLayAll0, PyData.canLay0, all_ints_lay ns, Bool.and_self]
theorem all_ints_depth : ∀ ns : List Int, PyData.depthAll (ns.map PyData.int) = 0
  | [] => rfl
  | n :: ns => by simp only [List.map_cons, PyData.depthAll, PyData.depth, all_ints_depth ns, Nat.max_self]
theorem ints_shaped (ns : List Int) : SeqAt.shaped (dInts ns) = true := by
  have h : PyData.depth (dInts ns) ≤ 64 := by
    show PyData.depthAll (ns.map PyData.int) + 1 ≤ 64
    rw [all_ints_depth]
    decide
  show (PyData.canLayAll0 (ns.map PyData.int) && decide (PyData.depth (dInts ns) ≤ 64)) = true
  rw [all_ints_lay, decide_eq_true h]
  rfl
theorem ints_eqvA : ∀ a b : List Int, PyData.eqvAll (a.map PyData.int) (b.map PyData.int) = decide (a = b)
  | [], [] => rfl
  | [], _ :: _ => by simp [PyData.eqvAll]
  | _ :: _, [] => by simp [PyData.eqvAll]
  | x :: xs, y :: ys => by
    rw [List.map_cons, List.map_cons, PyData.eqvAll, ints_eqvA xs ys]
    show ((x == y) && decide (xs = ys)) = _
    by_cases h : x = y
    · subst h; simp
    · simp [h]
theorem ints_eqv (a b : List Int) : PyData.eqv (dInts a) (dInts b) = decide (a = b) := by
  show PyData.eqvAll _ _ = _
  exact ints_eqvA a b
theorem dp_intsA {K : PySem.W.Frag} {H : Hp} : ∀ ns : List Int, DpAll K H (ns.map V.int) (ns.map PyData.int)
  | [] => .nil
  | n :: ns => .cons (.int n) (dp_intsA ns)
theorem dp_ints {K : PySem.W.Frag} {H : Hp} {a : Addr} {ns : List Int} (h : SqL K H a (ns.map V.int)) : Dp K H (.ref a) (dInts ns) := .lst h (dp_intsA ns)
end Rz

namespace Rz
open PySem PySem.Spec PyProof.Rows L2
/-! ### the class's own special methods -/
section
variable {X : Cx} {k : Nat} {f C a dx : Addr} {fs : List (Str × V)} {fd : FuncData} {ps : List Str} {sp : Sp} {pins : List (Addr × Obj)} {σ : L2.St} {H : Hp} {s : Shared}
/-- the instance as the library's rules want it -/
theorem inst_at (I : Inv X pins σ H s) (e : H a = some (.ins C dx fs)) : ∃ od, PySem.W.InstAt s.heap a (PySem.W.instObj C dx) C (some od) := by
  obtain ⟨mA, O, _⟩ := ins_get I.hok e
  obtain ⟨od, J, _⟩ := O.look
  exact ⟨od, J⟩
/-- the def called somewhere below the running body, nothing leaves it -/
theorem run_below {Q : VK} {us : List Value} {vs : List V} {A : Around} {E' : Value → Shared → Prop} (F : FnOk X.prog X.w X.K X.mg X.base (L2.CX X.prog X.w) k f fd ps sp) (hr : Room k A) (hfr : A.frames = X.A.frames) (hb : Binds X.K fd ps [])
    (I : Inv X pins σ H s) (r : Vals vs us) (h : sp vs H Q E0) : wpAny (model X.prog X.w) A (call (.ref f) us) (EP X pins σ Q) E' s := by
  have z := run_X (E := EN) (X := X.nox) (A := A) (pins := pins) (σ := σ) (Q := Q) F hr hfr hb .nil (atN (X := X.nox) σ) (I.wish _) r (by rw [List.append_nil]; exact h)
  refine wpAny_call (codeAny_mono z fun q s' hq => ?_)
  match q, hq with
  | .error er, hq => exact hq.elim
  | .ok (.ret u), hq =>
    obtain ⟨v, H', J, rv, q⟩ := hq
    exact ⟨v, H', J.unwish, rv, q⟩
  | .ok .next, hq => exact hq.elim
  | .ok .brk, hq => exact hq.elim
  | .ok .cont, hq => exact hq.elim
/-- str(x) by the own __str__ -/
theorem call_strO (M : Meth X.K C "__str__" f) (F : FnOk X.prog X.w X.K X.mg X.base (L2.CX X.prog X.w) k f fd ps sp) (hr : Room (k + 2) X.A) (hb : Binds X.K fd ps []) :
    CallR X (.type "str") (fun xs H Q => ∃ a dx fs, xs = [.ref a] ∧ H a = some (.ins C dx fs) ∧ sp [.ref a] H (fun v H' => (∃ z, v = .str z) ∧ Q v H') E0) := by
  intro pins s σ H xs us Q I r h
  obtain ⟨a, dx, fs, rfl, ea, hq⟩ := h
  obtain ⟨u, rfl, ru⟩ := vals1 r
  obtain rfl : u = Value.ref a := ru
  obtain ⟨od, J⟩ := inst_at I ea
  refine PySem.W.kso_call hr.in1.in1.units0 I.kIn J M.at_ M.fn (wpAny_mono (run_below (vs := [.ref a]) F hr.in1.in1 rfl hb I (.cons rfl .nil) hq) (fun v s' hv => ?_) fun _ _ z => z)
  obtain ⟨x, H', J', rx, ⟨z, rfl⟩, q⟩ := hv
  obtain ⟨t, rfl⟩ := rx
  show EP X pins σ Q _ _
  exact ⟨.str z, H', J', ⟨t, rfl⟩, q⟩
end
end Rz

namespace Rz
open PySem PySem.Spec PyProof.Rows L2
open Sem (wp)
/-! ### list(zip(text, list)) -/
theorem zip_nolen : typeLookup (.type "zip") "__len__" = pure Option.none := am_miss_of_fast (by decide +kernel)
theorem zip_nohint : typeLookup (.type "zip") "__length_hint__" = pure Option.none := am_miss_of_fast (by decide +kernel)
section
variable {prog : Program} {w : World} {A : Around} {E : Value → Shared → Prop} {s : Shared} {zz TI TO T i1 i2 L : Addr} {f1 f2 : List Addr} {n1 n2 i n : Nat} {P1 P2 : Nat → Value → Prop} {S1 S2 : Nat → Heap → Prop} {fl : Bool} {oT : Obj}

/-- next of a zip whose tuple is still out -/
theorem zh_item {Q : Value → Shared → Prop} (Z : ZipSep2 zz TI TO i1 i2 f1 f2) (D1 : Draws prog w A i1 f1 n1 P1 S1) (D2 : Draws prog w A i2 f2 n2 P2 S2)
    (gz : IsZipHeld s.heap zz TI TO T fl) (gT : s.heap.get? T = some oT) (gI : IsTupOf2 s.heap TI (.ref i1) (.ref i2)) (t1 : S1 i s.heap) (t2 : S2 i s.heap) (l1 : i < n1) (l2 : i < n2)
    (hQ : ∀ x y h' tk, P1 i x → P2 i y → IsZipHeld h' zz TI TO T true → S1 (i + 1) h' → S2 (i + 1) h' → IsTupOf2 h' s.heap.objs.size x y → h'.objs.size = s.heap.objs.size + 1 →
      (∀ c o, c ≠ zz → c ≠ i1 → c ≠ i2 → s.heap.get? c = some o → h'.get? c = some o) → Q (.ref s.heap.objs.size) { s with heap := h', toks := tk }) :
    wpAny (model prog w) A (Builtin.«zip.__next__» ⟨[.ref zz], []⟩) (fun fin s' => ∃ v, fin = .done (.ret v) ∧ Q v s') E s := by
  obtain ⟨hp, g, d, tk0, os⟩ := s
  show wpAny _ _ (field (.ref zz) 2 >>= _) _ _ _
  refine wpAny_bind (wpAny_field gz rfl (x := .bool false) rfl ?_)
  show wpAny _ _ (field (.ref zz) 3 >>= _) _ _ _
  refine wpAny_bind (wpAny_field gz rfl (x := .ref TI) rfl ?_)
  refine wpAny_bind (wpAny_seqItems gI rfl ?_)
  show wpAny _ _ (Builtin.SmallTypes.ownedTupleIsFree (.ref zz) >>= _) _ _ _
  refine wpAny_bind (wpAny_tupleHeld_zip gz gT fun h1 gz1 s1 => ?_)
  simp only [Bool.false_eq_true, if_false]
  refine wpAny_bind ?_
  rw [← Array.forIn_toList]
  simp only [List.forIn_cons, List.forIn_nil]
  refine wpAny_bind (wpAny_bind (wpAny_holding ?_))
  show wpAny _ _ (Builtin.SmallTypes.nextOf (.ref i1) >>= _) _ _ ⟨h1, g, d, tk0, os⟩
  refine wpAny_bind (D1.item i _ _ _ l1 (D1.over t1 s1 Z.zf1) fun x h2 tk1 px u1 s2 => wpAny_pure (wpAny_pure ?_))
  replace s2 : Heap.SameBut i1 h1 h2 := s2
  refine wpAny_bind (wpAny_bind (wpAny_holding ?_))
  show wpAny _ _ (Builtin.SmallTypes.nextOf (.ref i2) >>= _) _ _ ⟨h2, g, d, tk1, os⟩
  refine wpAny_bind (D2.item i _ _ _ l2 (D2.over (D2.over t2 s1 Z.zf2) s2 Z.sep1_2) fun y h3 tk2 py u2 s3 => wpAny_pure (wpAny_pure (wpAny_pure ?_)))
  replace s3 : Heap.SameBut i2 h2 h3 := s3
  show wpAny _ _ (newTuple [x, y] >>= _) _ _ ⟨h3, g, d, tk2, os⟩
  refine wpAny_bind (wpAny_newTuple ?_)
  have size3 : h3.objs.size = hp.objs.size := by rw [s3.1, s2.1, s1.1]
  have gz3 : IsZipHeld h3 zz TI TO T true := s3.extBut _ _ Z.zi2 (s2.extBut _ _ Z.zi1 gz1)
  have kk : ∀ c o, c ≠ zz → c ≠ i1 → c ≠ i2 → hp.get? c = some o → h3.get? c = some o := fun c o c1 c2 c3 e => s3.extBut _ _ c3 (s2.extBut _ _ c2 (s1.extBut _ _ c1 e))
  refine wpAny_pure ⟨_, rfl, ?_⟩
  show Q (.ref h3.objs.size) ⟨h3.push { cls := .type "tuple", data := .seq #[x, y] }, g, d, tk2, os⟩
  have new : IsTupOf2 (h3.push { cls := .type "tuple", data := .seq #[x, y] }) h3.objs.size x y := Heap.get?_push_size _ rfl
  have size4 : (h3.push { cls := .type "tuple", data := .seq #[x, y] }).objs.size = h3.objs.size + 1 := Heap.size_push ..
  rw [size3] at new size4 ⊢
  exact hQ x y _ tk2 px py (Heap.get?_push_of_some _ gz3) (D1.frame _ _ _ (D1.over u1 s3 Z.sep2_1) fun b _ o e => Heap.get?_push_of_some _ e) (D2.frame _ _ _ u2 fun b _ o e => Heap.get?_push_of_some _ e) new size4 fun c o c1 c2 c3 e => Heap.get?_push_of_some _ (kk c o c1 c2 c3 e)

theorem zh_end {Q : Fin → Shared → Prop} (Z : ZipSep2 zz TI TO i1 i2 f1 f2) (D1 : Draws prog w A i1 f1 n1 P1 S1) (D2 : Draws prog w A i2 f2 n2 P2 S2)
    (gz : IsZipHeld s.heap zz TI TO T fl) (gT : s.heap.get? T = some oT) (gI : IsTupOf2 s.heap TI (.ref i1) (.ref i2)) (t1 : S1 i s.heap) (t2 : S2 i s.heap) (hn1 : i = n1) 
    (hE : ∀ h' tk e, (∀ c o, c ≠ zz → c ≠ i1 → c ≠ i2 → s.heap.get? c = some o → h'.get? c = some o) → (∃ o, h'.get? e = some o ∧ o.cls = .type "StopIteration") → E (.ref e) { s with heap := h', toks := tk }) :
    wpAny (model prog w) A (Builtin.«zip.__next__» ⟨[.ref zz], []⟩) Q E s := by
  obtain ⟨hp, g, d, tk0, os⟩ := s
  show wpAny _ _ (field (.ref zz) 2 >>= _) _ _ _
  refine wpAny_bind (wpAny_field gz rfl (x := .bool false) rfl ?_)
  show wpAny _ _ (field (.ref zz) 3 >>= _) _ _ _
  refine wpAny_bind (wpAny_field gz rfl (x := .ref TI) rfl ?_)
  refine wpAny_bind (wpAny_seqItems gI rfl ?_)
  show wpAny _ _ (Builtin.SmallTypes.ownedTupleIsFree (.ref zz) >>= _) _ _ _
  refine wpAny_bind (wpAny_tupleHeld_zip gz gT fun h1 gz1 s1 => ?_)
  simp only [Bool.false_eq_true, if_false]
  refine wpAny_bind ?_
  rw [← Array.forIn_toList]
  simp only [List.forIn_cons, List.forIn_nil]
  refine wpAny_bind (wpAny_bind (wpAny_holding ?_))
  show wpAny _ _ (Builtin.SmallTypes.nextOf (.ref i1) >>= _) _ _ ⟨h1, g, d, tk0, os⟩
  subst hn1
  refine wpAny_bind (D1.done ⟨h1, g, d, tk0, os⟩ _ _ (D1.over t1 s1 Z.zf1) fun q e hq he => ?_)
  exact hE q tk0 e (fun c o c1 c2 _ x => hq _ _ c2 (s1.extBut _ _ c1 x)) he

/-- such a zip while a list at L is filled from it -/
def ZS (zz TI TO i1 i2 L : Addr) (S1 S2 : Nat → Heap → Prop) (i : Nat) (h : Heap) : Prop := IsTupOf2 h TI (.ref i1) (.ref i2) ∧ S1 i h ∧ S2 i h ∧
  ((IsZip h zz TI TO .none ∧ ∃ a b, IsTupOf2 h TO a b) ∨ ∃ T f o, IsZipHeld h zz TI TO T f ∧ h.get? T = some o ∧ T ≠ zz ∧ T ≠ i1 ∧ T ≠ i2 ∧ T ≠ L)
theorem zs_item {Q : Option Value → Shared → Prop} (Z : ZipSep2 zz TI TO i1 i2 f1 f2) (D1 : Draws prog w A.in1 i1 f1 n1 P1 S1) (D2 : Draws prog w A.in1 i2 f2 n2 P2 S2)
    (st : ZS zz TI TO i1 i2 L S1 S2 i s.heap) (hL : L < s.heap.objs.size) (l1 : i < n1) (l2 : i < n2)
    (hQ : ∀ x y h' tk, P1 i x → P2 i y → ZS zz TI TO i1 i2 L S1 S2 (i + 1) h' → IsTupOf2 h' s.heap.objs.size x y → h'.objs.size = s.heap.objs.size + 1 →
      (∀ c o, c ≠ zz → c ≠ TO → c ≠ i1 → c ≠ i2 → s.heap.get? c = some o → h'.get? c = some o) → Q (some (.ref s.heap.objs.size)) { s with heap := h', toks := tk }) :
    wpAny (model prog w) A (pyNext (.ref zz)) Q E s := by
  obtain ⟨gI, t1, t2, st⟩ := st
  have o1 : s.heap.objs.size ≠ i1 := let ⟨_, e⟩ := D1.live _ _ t1; Nat.ne_of_gt (Heap.lt_size e)
  have o2 : s.heap.objs.size ≠ i2 := let ⟨_, e⟩ := D2.live _ _ t2; Nat.ne_of_gt (Heap.lt_size e)
  rcases st with ⟨gz, a, b, gO⟩ | ⟨T, f, o, gz, gT, r1, r2, r3, r4⟩
  · refine wpAny_pyNext_zipD2_item Z D1 D2 gz gI gO t1 t2 l1 l2 fun x y h' tk px py b1 b2 u1 u2 new sz kk => ?_
    exact hQ x y h' tk px py ⟨kk _ _ Z.TIz Z.TITO Z.TIi1 Z.TIi2 gI, u1, u2, .inr ⟨_, false, _, b1, new, Nat.ne_of_gt (Heap.lt_size gz), o1, o2, Nat.ne_of_gt hL⟩⟩ new sz kk
  · have ty : s.TypeIs (.ref zz) "zip" := ⟨_, gz, rfl⟩
    unfold pyNext
    exact wpAny_bind (wpAny_attempt (wpAny_callSpecial?_slot (name := Str.ofString "__next__") ty F.slot_zip_next (wpAny_call_entry F.slot_zip_next ty F.entry_zip_next
      (zh_item Z D1 D2 gz gT gI t1 t2 l1 l2 fun x y h' tk px py b1 u1 u2 new sz kk => wpAny_pure
        (hQ x y h' tk px py ⟨kk _ _ Z.TIz Z.TIi1 Z.TIi2 gI, u1, u2, .inr ⟨T, true, o, b1, kk _ _ r1 r2 r3 gT, r1, r2, r3, r4⟩⟩ new sz fun c o c1 _ c3 c4 e => kk c o c1 c3 c4 e)) (F.args_zip_next_1 _))))
theorem zs_end {Q : Option Value → Shared → Prop} (Z : ZipSep2 zz TI TO i1 i2 f1 f2) (D1 : Draws prog w A.in1 i1 f1 n1 P1 S1) (D2 : Draws prog w A.in1 i2 f2 n2 P2 S2)
    (st : ZS zz TI TO i1 i2 L S1 S2 i s.heap) (hn : i = n1) (h12 : n1 ≤ n2)
    (hQ : ∀ h' tk, (∀ c o, c ≠ zz → c ≠ TO → c ≠ i1 → c ≠ i2 → s.heap.get? c = some o → h'.get? c = some o) → Q Option.none { s with heap := h', toks := tk }) : wpAny (model prog w) A (pyNext (.ref zz)) Q E s := by
  obtain ⟨gI, t1, t2, st⟩ := st
  rcases st with ⟨gz, a, b, gO⟩ | ⟨T, f, o, gz, gT, r1, r2, r3, r4⟩
  · exact wpAny_pyNext_zipD2_end Z D1 D2 gz gI gO t1 t2 (by omega) (by omega) (.inl hn) fun h' tk kk => hQ h' tk kk
  · have ty : s.TypeIs (.ref zz) "zip" := ⟨_, gz, rfl⟩
    unfold pyNext
    refine wpAny_bind (wpAny_attempt (wpAny_callSpecial?_slot (name := Str.ofString "__next__") ty F.slot_zip_next (wpAny_call_entry F.slot_zip_next ty F.entry_zip_next
      (zh_end Z D1 D2 gz gT gI t1 t2 hn fun h' tk e kk he => ?_) (F.args_zip_next_1 _))))
    obtain ⟨oe, h1, h2⟩ := he
    refine wpAny_bind (wpAny_isInstance (T := "StopIteration") (b := true) ⟨oe, h1, h2⟩ isSubtype_stop ?_)
    exact wpAny_pure (hQ _ _ fun c o c1 _ c3 c4 e => kk c o c1 c3 c4 e)
theorem ZS.keep {h h' : Heap} (st : ZS zz TI TO i1 i2 L S1 S2 i h) (D1 : Draws prog w A i1 f1 n1 P1 S1) (D2 : Draws prog w A i2 f2 n2 P2 S2) (kk : ∀ b o, b ≠ L → h.get? b = some o → h'.get? b = some o) (n0 : zz ≠ L) (nI : TI ≠ L) (nO : TO ≠ L) (nf1 : L ∉ f1) (nf2 : L ∉ f2) :
    ZS zz TI TO i1 i2 L S1 S2 i h' := by
  obtain ⟨gI, t1, t2, st⟩ := st
  refine ⟨kk _ _ nI gI, D1.frame _ _ _ t1 fun b hb o e => kk b o (fun z => nf1 (z ▸ hb)) e, D2.frame _ _ _ t2 fun b hb o e => kk b o (fun z => nf2 (z ▸ hb)) e, ?_⟩
  rcases st with ⟨gz, a, b, gO⟩ | ⟨T, f, o, gz, gT, r1, r2, r3, r4⟩
  · exact .inl ⟨kk _ _ n0 gz, a, b, kk _ _ nO gO⟩
  · exact .inr ⟨T, f, o, kk _ _ n0 gz, kk _ _ r4 gT, r1, r2, r3, r4⟩

/-- the tuples that came -/
structure ZG (P1 P2 : Nat → Value → Prop) (lo : Addr) (h : Heap) (as : List Addr) : Prop where
  rise : as.Pairwise (· < ·)
  over : ∀ a ∈ as, lo < a
  pairs : ∀ (j : Nat) (a : Addr), as[j]? = some a → ∃ x y, P1 j x ∧ P2 j y ∧ IsTupOf2 h a x y
theorem zg_loop {R : Result → Shared → Prop} {base : Heap} (Z : ZipSep2 zz TI TO i1 i2 f1 f2) (D1 : Draws prog w A.in1.in1 i1 f1 n1 P1 S1) (D2 : Draws prog w A.in1.in1 i2 f2 n2 P2 S2) (h12 : n1 ≤ n2)
    (n0 : zz < L) (nI : TI < L) (nO : TO < L) (m1 : i1 < L) (m2 : i2 < L) (nf1 : L ∉ f1) (nf2 : L ∉ f2) (hn : n1 ≤ sizeLine) (res : Value)
    (hR : ∀ h' tk acc c as, (∀ b o, b ≠ L → b ≠ zz → b ≠ TO → b ≠ i1 → b ≠ i2 → base.get? b = some o → h'.get? b = some o) → h'.get? L = some { cls := .type "list", dict := Option.none, data := .seq acc c, slots := #[] } → as.length = n1 → ZG P1 P2 L h' as →
      acc.toList = as.map Value.ref → R (.ok (.ret res)) { s with heap := h', toks := tk }) :
    ∀ (k i : Nat) (h : Heap) (tk c : Nat) (acc : Array Value) (as : List Addr), n1 - i = k → i ≤ n1 → ZS zz TI TO i1 i2 L S1 S2 i h → (∀ b o, b ≠ L → b ≠ zz → b ≠ TO → b ≠ i1 → b ≠ i2 → base.get? b = some o → h.get? b = some o) →
      h.get? L = some { cls := .type "list", dict := Option.none, data := .seq acc c, slots := #[] } → acc.toList = as.map Value.ref → as.length = i → ZG P1 P2 L h as →
      codeAny (model prog w) A (.builtin "list.extend.loop" ⟨[.ref L, .ref zz, res], []⟩) R { s with heap := h, toks := tk } := by
  intro k
  induction k with
  | zero =>
    intro i h tk c acc as hk hi st keep hL hacc hal hG
    refine codeAny_builtin F.entry_extend_loop ?_
    rw [Around.under_plainId F.plain_extend_loop _]
    show wpAny _ A.in1 (pyNext (.ref zz) >>= _) _ _ _
    refine wpAny_bind (zs_end (s := { s with heap := h, toks := tk }) Z D1 D2 st (by omega) h12 fun h' tk' kk => ?_)
    refine wpAny_pure (hR h' tk' acc c as (fun b o h1 h2 h3 h4 h5 e => kk b o h2 h3 h4 h5 (keep b o h1 h2 h3 h4 h5 e)) (kk L _ (Nat.ne_of_gt n0) (Nat.ne_of_gt nO) (Nat.ne_of_gt m1) (Nat.ne_of_gt m2) hL) (by omega) ⟨hG.rise, hG.over, fun j a hj => ?_⟩ hacc)
    obtain ⟨x, y, px, py, e⟩ := hG.pairs j a hj
    have hb := hG.over a (List.mem_of_getElem? hj)
    exact ⟨x, y, px, py, kk a _ (Nat.ne_of_gt (Nat.lt_trans n0 hb)) (Nat.ne_of_gt (Nat.lt_trans nO hb)) (Nat.ne_of_gt (Nat.lt_trans m1 hb)) (Nat.ne_of_gt (Nat.lt_trans m2 hb)) e⟩
  | succ k ih =>
    intro i h tk c acc as hk hi st keep hL hacc hal hG
    have hlt : i < n1 := by omega
    have size : acc.size = i := by rw [← Array.length_toList, hacc, List.length_map, hal]
    have lL : L < h.objs.size := Heap.lt_size hL
    refine codeAny_builtin F.entry_extend_loop ?_
    rw [Around.under_plainId F.plain_extend_loop _]
    show wpAny _ A.in1 (pyNext (.ref zz) >>= _) _ _ _
    refine wpAny_bind (zs_item (s := { s with heap := h, toks := tk }) Z D1 D2 st lL hlt (by omega) fun x y h' tk' px py st' new sz kk => ?_)
    dsimp only at new sz kk ⊢
    have hL' := kk L _ (Nat.ne_of_gt n0) (Nat.ne_of_gt nO) (Nat.ne_of_gt m1) (Nat.ne_of_gt m2) hL
    have up : ∀ b o, b ≠ L → h'.get? b = some o → (h'.update L (Obj.mapSeq (·.push (Value.ref h.objs.size)))).get? b = some o := fun b o hb e => (Heap.get?_update_other _ _ (Ne.symm hb)).trans e
    show wpAny _ A.in1 (updateSeq L (·.push (Value.ref h.objs.size)) >>= _) _ _ _
    refine wpAny_bind ?_
    refine wpAny_updateSeq hL' rfl (wpAny_pure ⟨plainId_quiet F.plain_extend_loop _, ih (i + 1) _ tk' _ (acc.push (Value.ref h.objs.size)) (as ++ [h.objs.size]) (by omega) hlt (st'.keep D1 D2 up (Nat.ne_of_lt n0) (Nat.ne_of_lt nI) (Nat.ne_of_lt nO) nf1 nf2)
      (fun b o h1 h2 h3 h4 h5 e => up b o h1 (kk b o h2 h3 h4 h5 (keep b o h1 h2 h3 h4 h5 e))) (Heap.get?_update_self _ hL' rfl) (by rw [Array.toList_push, hacc, List.map_append]; rfl) (by rw [List.length_append, hal]; rfl) ⟨?_, ?_, ?_⟩⟩) (by rw [size]; omega) (by show (acc.push (Value.ref h.objs.size)).size ≤ sizeLine + 1; rw [Array.size_push, size]; omega)
    · refine List.pairwise_append.mpr ⟨hG.rise, List.pairwise_singleton _ _, fun a ha b hb => ?_⟩
      obtain ⟨j, hj⟩ := List.mem_iff_getElem?.mp ha
      obtain ⟨_, _, _, _, e⟩ := hG.pairs j a hj
      rw [List.mem_singleton.mp hb]
      exact Heap.lt_size e
    · intro a ha
      rcases List.mem_append.mp ha with ha | ha
      · exact hG.over a ha
      · rw [List.mem_singleton.mp ha]; exact lL
    · intro j b hj
      rcases Nat.lt_trichotomy j as.length with h1 | h1 | h1
      · rw [List.getElem?_append_left h1] at hj
        obtain ⟨x', y', q1, q2, q3⟩ := hG.pairs j b hj
        have hb := hG.over b (List.mem_of_getElem? hj)
        exact ⟨x', y', q1, q2, up b _ (Nat.ne_of_gt hb) (kk b _ (Nat.ne_of_gt (Nat.lt_trans n0 hb)) (Nat.ne_of_gt (Nat.lt_trans nO hb)) (Nat.ne_of_gt (Nat.lt_trans m1 hb)) (Nat.ne_of_gt (Nat.lt_trans m2 hb)) q3)⟩
      · subst h1
        have hb : h.objs.size = b := by simpa using hj
        subst hb
        exact ⟨x, y, by rw [hal]; exact px, by rw [hal]; exact py, up _ _ (Nat.ne_of_gt lL) new⟩
      · rw [List.getElem?_eq_none (by rw [List.length_append, List.length_singleton]; omega)] at hj
        cases hj
theorem zg_call {Q : Value → Shared → Prop} (Z : ZipSep2 zz TI TO i1 i2 f1 f2) (D1 : Draws prog w A.in1.in1.in1 i1 f1 n1 P1 S1) (D2 : Draws prog w A.in1.in1.in1 i2 f2 n2 P2 S2) (h12 : n1 ≤ n2) (hn : n1 ≤ sizeLine)
    (gz : IsZip s.heap zz TI TO .none) (gI : IsTupOf2 s.heap TI (.ref i1) (.ref i2)) {a b : Value} (gO : IsTupOf2 s.heap TO a b) (t1 : S1 0 s.heap) (t2 : S2 0 s.heap) (nf1 : ∀ c ∈ f1, c < s.heap.objs.size) (nf2 : ∀ c ∈ f2, c < s.heap.objs.size)
    (hQ : ∀ h' tk acc c as, (∀ b o, b ≠ zz → b ≠ TO → b ≠ i1 → b ≠ i2 → s.heap.get? b = some o → h'.get? b = some o) → h'.get? s.heap.objs.size = some { cls := .type "list", dict := Option.none, data := .seq acc c, slots := #[] } → as.length = n1 → ZG P1 P2 s.heap.objs.size h' as →
      acc.toList = as.map Value.ref → Q (.ref s.heap.objs.size) { s with heap := h', toks := tk }) :
    wpAny (model prog w) A (call (.type "list") [.ref zz]) Q E s := by
  have q1 : s.heap.objs.size ∉ f1 := fun z => Nat.lt_irrefl _ (nf1 _ z)
  have q2 : s.heap.objs.size ∉ f2 := fun z => Nat.lt_irrefl _ (nf2 _ z)
  have lz := Heap.lt_size gz
  have lI := Heap.lt_size gI
  have lO := Heap.lt_size gO
  have m1 := nf1 _ Z.mem1
  have m2 := nf2 _ Z.mem2
  refine callType_codes (Q₁ := fun obj s₁ => obj = .ref s.heap.objs.size ∧ s₁ = { s with heap := s.heap.push { cls := .type "list", data := .seq #[] } }) F.called_list (F.typeCall_list_1 (.ref zz)) F.entry_list_init
    (code_list_new _ ⟨rfl, rfl⟩) fun obj s₁ h₁ => ?_
  obtain ⟨rfl, rfl⟩ := h₁
  have hS : (s.heap.push { cls := .type "list", data := .seq #[] }).get? s.heap.objs.size = some { cls := .type "list", data := .seq #[] } := Heap.get?_push_size _ rfl
  refine ⟨⟨_, hS, rfl⟩, F.args_list_init_2 _ (.ref zz), ?_⟩
  generalize hL : s.heap.objs.size = L at *
  have st0 : ZS zz TI TO i1 i2 L S1 S2 0 (s.heap.push { cls := .type "list", data := .seq #[] }) := ⟨Heap.get?_push_of_some _ gI, D1.frame _ _ _ t1 fun b _ o e => Heap.get?_push_of_some _ e, D2.frame _ _ _ t2 fun b _ o e => Heap.get?_push_of_some _ e, .inl ⟨Heap.get?_push_of_some _ gz, a, b, Heap.get?_push_of_some _ gO⟩⟩
  have k0 : ∀ b o, s.heap.get? b = some o → (s.heap.push { cls := .type "list", data := .seq #[] }).get? b = some o := fun b o e => Heap.get?_push_of_some _ e
  generalize (s.heap.push { cls := .type "list", data := .seq #[] }) = h0 at hS st0 k0
  show wpAny _ A.in1.in1 (do let old ← Builtin.List.listItems (.ref L); Builtin.List.listUpdate (.ref L) (fun _ => #[]); letGo old.toList.reverse; Builtin.List.listExtendWith (.ref L) (.ref zz) .none) _ _ _
  refine wpAny_bind ?_
  unfold Builtin.List.listItems
  refine wpAny_bind (wpAny_seqItems hS rfl (wpAny_pure ?_))
  show wpAny _ A.in1.in1 (updateSeq L (fun _ => #[]) >>= fun _ => letGo (#[] : Array Value).toList.reverse >>= fun _ => Builtin.List.listExtendWith (.ref L) (.ref zz) .none) _ _ _
  refine wpAny_bind (wpAny_updateSeq hS rfl ?_)
  have g2 := Heap.get?_update_self (Obj.mapSeq (fun _ => (#[] : Array Value))) hS rfl
  have kk2 : ∀ b o, b ≠ L → h0.get? b = some o → (h0.update L (Obj.mapSeq (fun _ => (#[] : Array Value)))).get? b = some o := fun b o hb e => (Heap.get?_update_other _ _ (Ne.symm hb)).trans e
  have st2 := st0.keep D1 D2 kk2 (Nat.ne_of_lt lz) (Nat.ne_of_lt lI) (Nat.ne_of_lt lO) q1 q2
  refine wpAny_bind (wpAny_letGo ?_)
  dsimp only at g2 kk2 st2 ⊢
  generalize (h0.update L (Obj.mapSeq (fun _ => (#[] : Array Value)))) = hh2 at g2 kk2 st2 ⊢
  have gz2 : IsZip hh2 zz TI TO .none := kk2 _ _ (Nat.ne_of_lt lz) (k0 _ _ gz)
  have ty2 : Shared.TypeIs { s with heap := hh2 } (.ref zz) "zip" := ⟨_, gz2, rfl⟩
  unfold Builtin.List.listExtendWith
  refine wpAny_bind (wpAny_typeOf ty2 ?_)
  have c1 : Builtin.List.listSameRef (.ref L) (.ref zz) = false := by simp [Builtin.List.listSameRef, Nat.ne_of_gt lz]
  have c2 : (Value.type "zip" == Value.type "list") = false := by decide
  have c3 : (Value.type "zip" == Value.type "tuple") = false := by decide
  simp only [c1, c2, c3, Bool.or_false, Bool.false_eq_true, if_false]
  refine wpAny_bind (wpAny_pyIter_zip gz2 ?_)
  refine wpAny_bind (wpAny_holding ?_)
  unfold Builtin.List.listLengthHint
  refine wpAny_bind (wpAny_specialOf ty2 zip_nolen ?_)
  show wpAny _ A.in1.in1 (specialOf (Value.ref zz) (Str.ofString "__length_hint__") >>= _) _ _ _
  refine wpAny_bind (wpAny_specialOf ty2 zip_nohint ?_)
  refine wpAny_pure ?_
  show wpAny _ A.in1.in1 (rule "list.extend.makes-room" >>= fun _ => Builtin.List.listTouch (.ref L) >>= fun _ =>
    again (.builtin "list.extend.loop" ⟨[.ref L, .ref zz, .none], []⟩)) _ _ _
  refine wpAny_bind (wpAny_rule ?_)
  refine wpAny_bind ?_
  show wpAny _ A.in1.in1 (updateSeq L (·.push .none) >>= fun _ => updateSeq L (·.pop)) _ _ _
  refine wpAny_bind (wpAny_updateSeq g2 rfl ?_)
  have g3 := Heap.get?_update_self (Obj.mapSeq (·.push Value.none)) g2 rfl
  refine wpAny_updateSeq (hz := by seq_fits) g3 rfl ?_
  have g4 := Heap.get?_update_self (Obj.mapSeq (·.pop)) g3 rfl
  have kk4 : ∀ b o, b ≠ L → hh2.get? b = some o → ((hh2.update L (Obj.mapSeq (·.push Value.none))).update L (Obj.mapSeq (·.pop))).get? b = some o :=
    fun b o hb e => (Heap.get?_update_other _ _ (Ne.symm hb)).trans ((Heap.get?_update_other _ _ (Ne.symm hb)).trans e)
  have lb : ∀ b o, s.heap.get? b = some o → b ≠ L := fun b o e => by rw [← hL]; exact Nat.ne_of_lt (Heap.lt_size e)
  refine wpAny_pure ⟨plainId_quiet F.plain_extend_loop _, ?_⟩
  refine zg_loop (s := { s with heap := _ }) (base := s.heap) Z D1 D2 h12 lz lI lO m1 m2 q1 q2 hn .none (fun h' tk acc c as kk hl hal hG hacc => ⟨rfl, hQ h' tk acc c as (fun b o h2 h3 h4 h5 e => kk b o (lb b o e) h2 h3 h4 h5 e) hl hal hG hacc⟩)
    n1 0 _ _ _ #[] [] (by omega) (Nat.zero_le _) (st2.keep D1 D2 kk4 (Nat.ne_of_lt lz) (Nat.ne_of_lt lI) (Nat.ne_of_lt lO) q1 q2) (fun b o h1 _ _ _ _ e => kk4 b o h1 (kk2 b o h1 (k0 b o e))) g4 rfl rfl ⟨List.Pairwise.nil, (fun _ ha => nomatch ha), (fun j a hj => by simp at hj)⟩
end
section
variable {X : Cx} {e e2 : Expr} {ta : TA} {p p2 cpos pos : Pos}
theorem vals_back : ∀ {xs : List V} {us : List Value} {i : Nat} {u : Value}, Paired RelV xs us → us[i]? = some u → ∃ x, xs[i]? = some x ∧ RelV x u
  | _, _, i, u, .nil, h => by cases h
  | _, _, 0, u, .cons r t, h => by
    have e := Option.some.inj h
    subst e
    exact ⟨_, rfl, r⟩
  | _, _, i + 1, u, .cons r t, h => vals_back (i := i) t (by simpa using h)
theorem sep5 (n l : Nat) (h : l < n) : ZipSep2 (n + 4) (n + 2) (n + 3) n (n + 1) [n] [n + 1, l] := by
  have ne : ∀ a b : Nat, a < b → ¬ (a : Addr) = b := fun a b h z => Nat.ne_of_lt h z
  have en : ∀ a b : Nat, b < a → ¬ (a : Addr) = b := fun a b h z => Nat.ne_of_gt h z
  have no1 : ∀ a b : Nat, (a < b ∨ b < a) → (a : Addr) ∉ [(b : Addr)] := fun a b h z => by
    have e : a = b := List.mem_singleton.mp z
    omega
  have no2 : ∀ a b c : Nat, (a < b ∨ b < a) → (a < c ∨ c < a) → (a : Addr) ∉ [(b : Addr), (c : Addr)] := fun a b c h1 h2 z => by
    rcases List.mem_cons.mp z with e | e
    · have e : a = b := e
      omega
    · have e : a = c := List.mem_singleton.mp e
      omega
  exact ⟨ne _ _ (by omega), ne _ _ (by omega), ne _ _ (by omega), en _ _ (by omega), List.mem_cons_self, no1 _ _ (by omega), no1 _ _ (by omega), en _ _ (by omega), List.mem_cons_self, no2 _ _ _ (by omega) (by omega), no2 _ _ _ (by omega) (by omega), no2 _ _ _ (by omega) (by omega), no1 _ _ (by omega)⟩
/-- the pairs of the signs of x and of ys -/
def zkv (x : Str) (ys : List V) : List (Key × V) := (x.cps.toList.zip ys).map fun q => (Sum.inr ⟨#[q.1]⟩, q.2)
theorem zkv_len {x : Str} {ys : List V} (h : x.length = ys.length) : (zkv x ys).length = x.length := by
  unfold zkv
  rw [List.length_map, List.length_zip]
  show min x.length ys.length = _
  omega
theorem zkv_at {x : Str} {ys : List V} {j c : Nat} {y : V} (h1 : x.cps[j]? = some c) (h2 : ys[j]? = some y) : (zkv x ys)[j]? = some (Sum.inr ⟨#[c]⟩, y) := by
  unfold zkv
  rw [List.getElem?_map, List.zip_eq_zipWith, List.getElem?_zipWith, Array.getElem?_toList, h1, h2]
  rfl
theorem zip_laid {pins : List (Addr × Obj)} {σ : L2.St} {H : Hp} {s : Shared} {h' : Heap} {tk : Nat} {kvs : List (Key × V)} {acc : Array Value} {c : Nat} {L : Addr} {as : List Addr} (I : Inv X pins σ H s) (hL : s.heap.objs.size ≤ L) (hz : kvs.length ≤ sizeLine)
    (kk : ∀ b o, s.heap.get? b = some o → h'.get? b = some o) (eL : h'.get? L = some { cls := .type "list", dict := none, data := .seq acc c, slots := #[] }) (hl : as.length = kvs.length) (rise : as.Pairwise (· < ·)) (over : ∀ a ∈ as, L < a)
    (prs : ∀ (j : Nat) (a : Addr), as[j]? = some a → ∃ q x y, kvs[j]? = some q ∧ RelV (kV q.1) x ∧ RelV q.2 y ∧ IsTupOf2 h' a x y) (hacc : acc.toList = as.map Value.ref) :
    ∃ H' : Hp, (∀ b o, H b = some o → H' b = some o) ∧ H L = none ∧ (∀ t ∈ as, H t = none) ∧ L ∉ as ∧ H' L = some (.lst (as.map V.ref)) ∧ Paired (fun (t : Addr) (q : Key × V) => H' t = some (.tup [kV q.1, q.2])) as kvs ∧ Inv X pins σ H' { s with heap := h', toks := tk } := by
  have nL : L ∉ as := fun z => Nat.lt_irrefl _ (over _ z)
  have nd : as.Nodup := List.Pairwise.imp (fun {a b} (h : a < b) => Nat.ne_of_lt h) rise
  have newT : ∀ t ∈ as, H t = none := fun t ht => I.hok.fresh (Nat.le_trans hL (Nat.le_of_lt (over t ht)))
  have newL : H L = none := I.hok.fresh hL
  have laid := LiI.putT_at as kvs (upd H L (.lst (as.map V.ref))) hl nd
  have off : ∀ b, b ∉ as → b ≠ L → LiI.putT (upd H L (.lst (as.map V.ref))) as kvs b = H b := fun b q1 q2 => by rw [LiI.putT_off as kvs _ q1, upd_ne q2]
  have low : ∀ b o, s.heap.get? b = some o → b ∉ as ∧ b ≠ L := fun b o e => ⟨fun z => absurd (Heap.lt_size e) (Nat.not_lt.mpr (Nat.le_trans hL (Nat.le_of_lt (over b z)))), fun z => absurd (Heap.lt_size e) (Nat.not_lt.mpr (z ▸ hL))⟩
  have same : ∀ b u, H b = some u → (LiI.putT (upd H L (.lst (as.map V.ref))) as kvs) b = some u := fun b u e => by
    rw [off b (fun z => by rw [newT b z] at e; cases e) (fun z => by rw [z, newL] at e; cases e), e]
  have atL : LiI.putT (upd H L (.lst (as.map V.ref))) as kvs L = some (.lst (as.map V.ref)) := by rw [LiI.putT_off as kvs _ nL, upd_same]
  refine ⟨LiI.putT (upd H L (.lst (as.map V.ref))) as kvs, same, newL, newT, nL, atL, laid, ?_⟩
  refine I.call' (ch := []) rfl ⟨fun b o q _ _ _ => kk b o q, fun b o q _ _ _ => ⟨o.slots, kk b o q⟩, fun b o q n _ => ?_, fun b o q _ => ⟨o, kk b o q⟩, fun b xs q => same b _ q, fun b o u q => same b _ q, fun b ps q => ⟨#[], by rw [same b _ q]; simp⟩⟩ (fun b u q => ?_) I.bare fun b z => by simp at z
  · obtain ⟨z1, z2⟩ := low b o q
    rw [off b z1 z2, n]
  · by_cases hb : b ∈ as
    · obtain ⟨j, pk, e1, e2, e3⟩ := LiI.paired_ix laid hb
      rw [e3] at q
      cases q
      obtain ⟨pq, x, y, g1, g2, g3, g4⟩ := prs j b e1
      rw [e2] at g1
      cases g1
      exact ⟨by show 2 ≤ sizeLine; decide, [x, y], .cons g2 (.cons g3 .nil), ⟨_, g4, rfl, _, rfl⟩⟩
    · by_cases hb2 : b = L
      · rw [hb2] at q ⊢
        rw [atL] at q
        cases q
        refine ⟨by rw [List.length_map, hl]; exact hz, acc.toList, c, by rw [hacc]; exact LiI.vals_refs as, ?_⟩
        rw [Array.toArray_toList]
        exact eL
      · rw [off b hb hb2] at q
        exact (I.hok b u q).stay (fun d v _ y => kk d v y) (fun d y => same d _ y) fun d xs y => same d _ y
def rZipL (K : PySem.W.Frag) : List V → Hp → VK → Prop := fun vs H Q => ∃ (x : Str) (l : Addr) (ys : List V), vs = [.str x, .ref l] ∧ SqL K H l ys ∧ x.length = ys.length ∧ x.length ≤ sizeLine ∧
  ∀ (H' : Hp) (q : Addr) (ts : List Addr), Same H H' → H q = none → (∀ t ∈ ts, H t = none) → q ∉ ts → H' q = some (.lst (ts.map V.ref)) → Paired (fun (t : Addr) (u : Key × V) => H' t = some (.tup [kV u.1, u.2])) ts (zkv x ys) → Q (.ref q) H'
def tLstZ (K : PySem.W.Frag) (ta : TA) : TE := fun σ H Q => ta σ H fun vs H1 => rZipL K vs H1 Q
/-- list(zip(text, list)) -/
theorem pe_listZip (hc : X.calm = true) (ha : PA X [e, e2] ta) (hg : Gl X "list") (hm : X.mg "list" = none) (hv : bootBuiltins "list" = some (.type "list")) (hg2 : Gl X "zip") (hm2 : X.mg "zip" = none)
    (hs : starEach [e, e2] X.env = (false, eval e X.env) :: starEach [e2] X.env := by rfl) (hpl : (backTo cpos (starEach [e2] X.env)).any (·.1) = false := by rfl)
    (na : starEach [.Call (.Name "zip" p2) [e, e2] [] cpos] X.env = (false, eval (.Call (.Name "zip" p2) [e, e2] [] cpos) X.env) :: starEach [] X.env := by rfl) :
    PE X (.Call (.Name "list" p) [.Call (.Name "zip" p2) [e, e2] [] cpos] [] pos) (tLstZ X.K ta) := by
  refine ⟨fun pins s σ H Q I h => ?_⟩
  refine Call_ (ld_blt I hg hm hv ?_)
  refine PyProof.Rows.callWith_type1 (PyProof.Rows.args_cons ?_ na) na rfl
  refine Call_ (ld_blt I hg2 hm2 PyProof.Rows.boot_zip (PyProof.Rows.callWith_type1 (thn (ha.run cpos pins s σ H _ I h) fun us s1 ⟨vs, H1, I1, r1, q1⟩ => ?_) hs hpl))
  obtain ⟨x, l, ys, rfl, hq, hxy, hxz, q⟩ := q1
  cases r1 with
  | cons r rr =>
    cases rr with
    | cons r' rr =>
      cases rr
      obtain ⟨t, rfl⟩ := r
      cases r'
      obtain ⟨its, rv, p1, hiz⟩ := I1.list hq
      have ll : l < s1.heap.objs.size := p1.lt
      have hlen : its.toArray.size = x.cps.size := by
        rw [List.size_toArray, ← rv.length]
        exact hxy.symm
      have D0 : (s1.heap.objs.size : Nat) < s1.heap.objs.size + 1 := Nat.lt_succ_self _
      have hh : X.A.in1.in1.in1.handled = none := I1.ok.hd hc
      refine zip_begins2 (begins_text x t) (begins_list l its.toArray) trivial p1.isList fun h' gz gI gO g1 g2 size kk => PyProof.Rows.args_nil ?_
      have Z := sep5 s1.heap.objs.size l ll
      refine zg_call (n1 := x.cps.size) (n2 := its.toArray.size) (P1 := fun i v => ∃ c u, x.cps[i]? = some c ∧ v = .str ⟨#[c]⟩ u) (P2 := fun i v => its.toArray[i]? = some v) (S1 := fun i h => h.IsStrIter s1.heap.objs.size (strIterType x) x t i) (S2 := fun i h => h.IsListIter (s1.heap.objs.size + 1) l i ∧ h.IsList l its.toArray)
        Z (Draws.text hh _ x t) (Draws.list hh _ l (Nat.ne_of_lt (Nat.lt_succ_of_lt ll)) its.toArray) (by omega) hxz gz gI gO ⟨_, g1, rfl, rfl⟩ ⟨⟨_, g2, rfl, rfl⟩, p1.isList.at fun o e => kk l o e⟩ ?_ ?_ ?_
      · intro c hc
        have e : c = s1.heap.objs.size := by simpa using hc
        subst e
        show _ < h'.objs.size
        omega
      · intro c hc
        show (c : Nat) < h'.objs.size
        have z : c = s1.heap.objs.size + 1 ∨ c = l := by simpa using hc
        have ll' : (l : Nat) < s1.heap.objs.size := ll
        rcases z with z | z
        · rw [size, z]
          exact Nat.add_lt_add_left (by decide) _
        · rw [size, z]
          exact Nat.lt_of_lt_of_le ll' (Nat.le_add_right _ _)
      · intro h2 tk acc c as kp eL hal hG hacc
        dsimp only at kp eL hG ⊢
        have lows : ∀ b o, s1.heap.get? b = some o → h2.get? b = some o := fun b o e => by
          have hb : (b : Nat) < s1.heap.objs.size := Heap.lt_size e
          have far : ∀ k : Nat, b ≠ s1.heap.objs.size + k := fun k z => Nat.ne_of_lt (Nat.lt_of_lt_of_le hb (Nat.le_add_right _ k)) z
          exact kp b o (far 4) (far 3) (far 0) (far 1) (kk b o e)
        obtain ⟨H', k1, k2, k3, k4, k5, k6, J⟩ := zip_laid (tk := tk) (kvs := zkv x ys) I1 (L := h'.objs.size) (by rw [size]; exact Nat.le_add_right _ _) (by rw [zkv_len hxy]; exact hxz) lows eL (by rw [zkv_len hxy]; exact hal) hG.rise hG.over (fun j a hj => by
          obtain ⟨u, v, ⟨cc, uu, e1, e2⟩, e3, e4⟩ := hG.pairs j a hj
          subst e2
          have e3' : its[j]? = some v := by simpa using e3
          obtain ⟨y, hy, ry⟩ := vals_back rv e3'
          exact ⟨_, _, _, zkv_at e1 hy, ⟨_, rfl⟩, ry, e4⟩) hacc
        exact ⟨.ref _, H', J, rfl, q H' _ as k1 k2 k3 k4 k5 k6⟩
end
end Rz

namespace Rz
open PySem PySem.Spec PyProof.Rows L2
/-! ### more of the class's own special methods -/
section
variable {X : Cx} {k : Nat} {f C a dx : Addr} {fs : List (Str × V)} {fd : FuncData} {ps : List Str} {sp : Sp} {pins : List (Addr × Obj)} {σ : L2.St} {H : Hp} {s : Shared}
/-- o += x by the own __iadd__ -/
def tIpO (C : Addr) (sp : Sp) : V → V → Hp → VK → Prop := fun x y H Q => ∃ a dx fs, x = .ref a ∧ H a = some (.ins C dx fs) ∧ sp [x, y] H (fun v H' => (∃ b, v = .ref b) ∧ Q v H') E0
theorem ip_own (M : Meth X.K C "__iadd__" f) (hc : PySem.W.selfFirst X.K C = true) (F : FnOk X.prog X.w X.K X.mg X.base (L2.CX X.prog X.w) k f fd ps sp) (hr : Room k X.A) (hb : Binds X.K fd ps []) : PIp X .Add (tIpO C sp) := by
  intro pins s σ H x y v u Q I r1 r2 h
  obtain ⟨a, dx, fs, rfl, ea, hq⟩ := h
  obtain rfl : v = Value.ref a := r1
  obtain ⟨od, J⟩ := inst_at I ea
  obtain ⟨m0, hF⟩ := I.fr
  refine PySem.W.ksp_inplace hF I.ok.mod.kin J hc M.at_ M.fn (wpAny_mono (run_below (vs := [.ref a, y]) F hr rfl hb I (.cons rfl (.cons r2 .nil)) hq) (fun r s' hv => ?_) fun _ _ z => z)
  obtain ⟨z, H', J', rz, ⟨b, rfl⟩, q⟩ := hv
  obtain rfl : r = Value.ref b := rz
  exact ⟨.ref b, H', J', rfl, q⟩
/-- o[i] = v by the own __setitem__ -/
def tSetO (C : Addr) (sp : Sp) : TSet := fun o i v H Q => ∃ a dx fs, o = .ref a ∧ H a = some (.ins C dx fs) ∧ sp [o, i, v] H (fun _ H' => Q H') E0
theorem set_own (M : Meth X.K C "__setitem__" f) (hn : PySem.W.noSeq X.K C = true) (F : FnOk X.prog X.w X.K X.mg X.base (L2.CX X.prog X.w) k f fd ps sp) (hr : Room k X.A) (hb : Binds X.K fd ps []) : PSet X (tSetO C sp) := by
  intro pins s σ H o i v ov iv u Q I r1 r2 r3 h
  obtain ⟨a, dx, fs, rfl, ea, hq⟩ := h
  obtain rfl : ov = Value.ref a := r1
  obtain ⟨od, J⟩ := inst_at I ea
  obtain ⟨m0, hF⟩ := I.fr
  refine PySem.W.ksp_setItem hF I.ok.mod.kin J hn M.at_ M.fn (wpAny_mono (run_below (vs := [.ref a, i, v]) F hr rfl hb I (.cons rfl (.cons r2 (.cons r3 .nil))) hq) (fun r s' hv => ?_) fun _ _ z => z)
  obtain ⟨z, H', J', rz, q⟩ := hv
  exact ⟨H', J', q⟩
/-- len(x) by the own __len__ -/
def rLenO (C : Addr) (sp : Sp) : List V → Hp → VK → Prop := fun xs H Q => ∃ a dx fs, xs = [.ref a] ∧ H a = some (.ins C dx fs) ∧ sp [.ref a] H (fun v H' => ∃ n : Nat, v = .int n ∧ n < 2 ^ 63 ∧ Q v H') E0
theorem call_lenO (M : Meth X.K C "__len__" f) (F : FnOk X.prog X.w X.K X.mg X.base (L2.CX X.prog X.w) k f fd ps sp) (hr : Room (k + 1) X.A) (hb : Binds X.K fd ps []) : CallR X (.builtin "len") (rLenO C sp) := by
  intro pins s σ H xs us Q I r h
  obtain ⟨a, dx, fs, rfl, ea, hq⟩ := h
  obtain ⟨u, rfl, ru⟩ := vals1 r
  obtain rfl : u = Value.ref a := ru
  obtain ⟨od, J⟩ := inst_at I ea
  obtain ⟨m0, hF⟩ := I.fr
  refine PySem.W.len_K hF I.ok.mod.kin J M.at_ M.fn (wpAny_mono (run_below (vs := [.ref a]) F hr.in1 rfl hb I (.cons rfl .nil) hq) (fun r s' hv => ?_) fun _ _ z => z)
  obtain ⟨z, H', J', rz, n, rfl, hn, q⟩ := hv
  obtain ⟨t, rfl⟩ := rz
  exact ⟨⟨by omega, by omega⟩, .int n, H', J'.tok _, ⟨_, rfl⟩, q⟩
/-- abs(x) by the own __abs__ -/
def rAbsO (C : Addr) (sp : Sp) : List V → Hp → VK → Prop := fun xs H Q => ∃ a dx fs, xs = [.ref a] ∧ H a = some (.ins C dx fs) ∧ sp [.ref a] H Q E0
theorem call_absO (M : Meth X.K C "__abs__" f) (F : FnOk X.prog X.w X.K X.mg X.base (L2.CX X.prog X.w) k f fd ps sp) (hr : Room (k + 1) X.A) (hb : Binds X.K fd ps []) : CallR X (.builtin "abs") (rAbsO C sp) := by
  intro pins s σ H xs us Q I r h
  obtain ⟨a, dx, fs, rfl, ea, hq⟩ := h
  obtain ⟨u, rfl, ru⟩ := vals1 r
  obtain rfl : u = Value.ref a := ru
  obtain ⟨od, J⟩ := inst_at I ea
  refine Calls.call_function_entry kind_abs plain_abs entry_abs (args_abs _) ?_
  unfold Builtin.«abs»
  refine wpAny_bind (m := oneArg "abs" _) (wpAny_pure ?_)
  refine wpAny_bind (m := callSpecial? (.ref a) (Str.ofString "__abs__")) (PySem.W.special_fn I.kIn J M.at_ (beq_iff_eq.mp M.fn) (wpAny_mono (run_below (vs := [.ref a]) F hr.in1 rfl hb I (.cons rfl .nil) hq) (fun r s' hv => ?_) fun _ _ z => z))
  exact wpAny_pure ⟨_, rfl, hv⟩
end
end Rz
namespace Rz
open PySem PySem.Spec PyProof.Rows L2
section
variable {X : Cx} {k : Nat} {fi fn C : Addr} {fdI fdN : FuncData} {psI psN : List Str} {spI spN : Sp} {pins : List (Addr × Obj)} {σ : L2.St} {A1 : Around} {l q it : Addr} {ys : List V} {H0 : Hp} {Rs : Result → Shared → Prop}
/-- a list filled from an iterator over another one -/
theorem lo_loop (hh : A1.handled = none) (hs : SqL X.K H0 l ys) (hz : ys.length ≤ sizeLine) (nq : H0 q = none) (ni : H0 it = none) (ne : it ≠ q)
    (hR : ∀ H s, Inv X pins σ H s → (∀ b o, H0 b = some o → H b = some o) → H q = some (.lst ys) → Rs (.ok (.ret .none)) s) :
    ∀ (j i : Nat) (H : Hp) (s : Shared), ys.length - i = j → i ≤ ys.length → Inv X pins σ H s → (∀ b o, H0 b = some o → H b = some o) → H it = some (ItO l it i) → H q = some (.lst (ys.take i)) →
      codeAny (model X.prog X.w) A1 (.builtin "list.extend.loop" ⟨[.ref q, .ref it, .none], []⟩) Rs s := by
  intro j
  induction j with
  | zero =>
    intro i H s hj hi I S ei eq
    have e0 : i = ys.length := by omega
    subst e0
    obtain ⟨its, rv, pl, _⟩ := I.list (Same.seq (H := H0) (H' := H) (fun b o e => S b o e) hs)
    have ty : s.TypeIs (.ref it) "list_iterator" := ⟨_, itO_get I ei, rfl⟩
    have mu : Mut (H it) := by rw [ei]; exact True.intro
    refine codeAny_builtin PySem.F.entry_extend_loop ?_
    rw [Around.under_plainId PySem.F.plain_extend_loop _]
    show wpAny _ A1.in1 (pyNext (.ref it) >>= _) _ _ s
    refine wpAny_bind ?_
    unfold pyNext
    refine wpAny_bind (wpAny_attempt (wpAny_callSpecial?_slot (name := Str.ofString "__next__") ty slot_listiter_next (wpAny_call_entry slot_listiter_next ty entry_listiter_next
      (GNX.next_end (A := A1.in1) hh (itO_get I ei) pl.isList (by rw [List.getElem?_toArray]; exact rv.none_of (List.getElem?_eq_none (Nat.le_refl _))) fun h1 h' e vs e1 sb kk nn he hv => ?_) (args_listiter_next _))))
    refine wpAny_bind (wpAny_isInstance (T := "StopIteration") (b := true) ⟨_, he, rfl⟩ isSubtype_stop ?_)
    have I2 : Inv X pins σ (upd H it (ItE it ys.length)) { s with heap := h1 } := I.write (x := it) (e := it) (t' := s.toks) mu (.inl rfl) (fun b o nb z => (sb.2 b nb).trans z) ⟨_, e1⟩ (itE_ok e1)
    have I3 : Inv X pins σ (upd H it (ItE it ys.length)) { s with heap := h' } := I2.kept (t' := s.toks) kk
    refine wpAny_pure (wpAny_pure (hR _ _ I3 (fun b o e => ?_) ?_))
    · rw [upd_ne (ne_of_none e ni)]
      exact S b o e
    · rw [upd_ne (Ne.symm ne), eq, List.take_length]
  | succ j ih =>
    intro i H s hj hi I S ei eq
    have hlt : i < ys.length := by omega
    obtain ⟨its, rv, pl, _⟩ := I.list (Same.seq (H := H0) (H' := H) (fun b o e => S b o e) hs)
    obtain ⟨u, hu, ru⟩ := rv.get (List.getElem?_eq_getElem hlt)
    have ty : s.TypeIs (.ref it) "list_iterator" := ⟨_, itO_get I ei, rfl⟩
    have mu : Mut (H it) := by rw [ei]; exact True.intro
    refine codeAny_builtin PySem.F.entry_extend_loop ?_
    rw [Around.under_plainId PySem.F.plain_extend_loop _]
    show wpAny _ A1.in1 (pyNext (.ref it) >>= _) _ _ s
    refine wpAny_bind ?_
    unfold pyNext
    refine wpAny_bind (wpAny_attempt (wpAny_callSpecial?_slot (name := Str.ofString "__next__") ty slot_listiter_next (wpAny_call_entry slot_listiter_next ty entry_listiter_next
      (GNX.next_item (itO_get I ei) pl.isList (by rw [List.getElem?_toArray]; exact hu) fun h' e' sb => wpAny_pure ?_) (args_listiter_next _))))
    have I1 : Inv X pins σ (upd H it (ItO l it (i + 1))) { s with heap := h' } := I.write (x := it) (e := it) (t' := s.toks) mu (.inl rfl) (fun b o nb z => (sb.2 b nb).trans z) ⟨_, e'⟩ (itO_ok e')
    have eq1 : upd H it (ItO l it (i + 1)) q = some (.lst (ys.take i)) := by rw [upd_ne (Ne.symm ne), eq]
    obtain ⟨z, its2, n, r2, hl, e⟩ := I1.lstM eq1
    have ltk : (ys.take i).length = i := by rw [List.length_take]; omega
    have tk1 : ys.take (i + 1) = ys.take i ++ [ys[i]] := by rw [List.take_add_one, List.getElem?_eq_getElem hlt]; rfl
    show wpAny _ A1.in1 (updateSeq q (·.push u) >>= _) _ _ _
    refine wpAny_bind (wpAny_updateSeq e rfl (wpAny_pure ⟨plainId_quiet PySem.F.plain_extend_loop _, ?_⟩) (by rw [List.size_toArray]; omega) (by show (its2.toArray.push u).size ≤ sizeLine + 1; rw [Array.size_push, List.size_toArray]; omega))
    refine ih (i + 1) _ _ (by omega) hlt (I1.lset (its' := its2 ++ [u]) (t' := s.toks) eq1 e (by simp) (r2.append (.cons ru .nil)) (by rw [List.length_append, List.length_singleton]; omega)) (fun b o e => ?_) ?_ ?_
    · rw [upd_ne (ne_of_none e nq), upd_ne (ne_of_none e ni)]
      exact S b o e
    · rw [upd_ne ne, upd_same]
    · rw [upd_same, tk1]
def rListO (K : PySem.W.Frag) (C : Addr) (spI spN : Sp) : List V → Hp → VK → Prop := fun xs H Q => ∃ (a dx : Addr) (fs : List (Str × V)) (l : Addr) (ys : List V) (n : Nat), xs = [.ref a] ∧ H a = some (.ins C dx fs) ∧ SqL K H l ys ∧ n < 2 ^ 63 ∧ Builtin.List.listTooLong n = false ∧
  (∀ (H1 : Hp) (R : VK), Same H H1 → (∀ it, H1 it = none → R (.ref it) (upd H1 it (ItO l it 0))) → spI [.ref a] H1 R E0) ∧ (∀ (H1 : Hp) (R : VK), Same H H1 → R (.int (n : Nat)) H1 → spN [.ref a] H1 R E0) ∧
  ∀ (H' : Hp) (q : Addr), Same H H' → H q = none → H' q = some (.lst ys) → Q (.ref q) H'
theorem hint_own {M : Model} {A : Around} {E : Value → Shared → Prop} {s : Shared} {a : Addr} {Q : Bool → Shared → Prop} {K : PySem.W.Frag} {ox : Obj} {od : Option Obj} (hK : K.In s.heap) (MN : Meth K C "__len__" fn) (J : PySem.W.InstAt s.heap a ox C od)
    (h : wpAny M A (call (.builtin "len") [.ref a]) (fun v s' => ∃ (n : Int) (t : Tok), v = .int n t ∧ Builtin.List.listTooLong n.toNat = false ∧ Q (n != 0) s') (fun _ _ => False) s) : wpAny M A (Builtin.List.listLengthHint (.ref a)) Q E s := by
  unfold Builtin.List.listLengthHint
  refine wpAny_bind (wpAny_bind (J.type.here ((PySem.W.looks_findIn hK MN.at_).here ?_)))
  refine PySem.W.KFB.if_not rfl ?_
  refine PySem.W.KFB.if_so rfl ?_
  refine wpAny_bind (wpAny_rule ?_)
  refine wpAny_bind (wpAny_attempt (wpAny_mono h (fun v s' hv => ?_) fun _ _ z => z.elim))
  obtain ⟨n, t, rfl, hl, q⟩ := hv
  refine wpAny_bind (wpAny_of_eq (a := some n) rfl ?_)
  refine PySem.W.KFB.if_not hl ?_
  exact wpAny_pure q
theorem li_next : typeLookup (.type "list_iterator") "__next__" = pure (some (.builtin "list_iterator.__next__")) := slot_listiter_next.lookup
/-- list(x) by the own __iter__, that yields an iterator over a list, and the own __len__ -/
theorem call_listR (hcalm : X.calm = true) (MI : Meth X.K C "__iter__" fi) (FI : FnOk X.prog X.w X.K X.mg X.base (L2.CX X.prog X.w) k fi fdI psI spI) (bI : Binds X.K fdI psI []) (MN : Meth X.K C "__len__" fn) (FN : FnOk X.prog X.w X.K X.mg X.base (L2.CX X.prog X.w) k fn fdN psN spN) (bN : Binds X.K fdN psN [])
    (hr : Room (k + 3) X.A) : CallR X (.type "list") (rListO X.K C spI spN) := by
  intro pins s σ H xs us Q I r h
  obtain ⟨a, dx, fs, l, ys, n, rfl, ha, hq, hn, hlong, hI, hN, fin⟩ := h
  obtain ⟨u, rfl, ru⟩ := vals1 r
  obtain rfl : u = Value.ref a := ru
  obtain ⟨its0, rv0, pl0, hz⟩ := I.list hq
  have hyz : ys.length ≤ sizeLine := by
    have := rv0.length
    omega
  refine callType_codes (Q₁ := fun obj s₁ => obj = .ref s.heap.objs.size ∧ s₁ = { s with heap := s.heap.push { cls := .type "list", data := .seq #[] } }) PySem.F.called_list (PySem.F.typeCall_list_1 (.ref a)) PySem.F.entry_list_init
    (code_list_new _ ⟨rfl, rfl⟩) fun obj s₁ h₁ => ?_
  obtain ⟨rfl, rfl⟩ := h₁
  have hS : (s.heap.push { cls := .type "list", data := .seq #[] }).get? s.heap.objs.size = some { cls := .type "list", data := .seq #[] } := Heap.get?_push_size _ rfl
  refine ⟨⟨_, hS, rfl⟩, PySem.F.args_list_init_2 _ (.ref a), ?_⟩
  have fr : H s.heap.objs.size = none := I.hok.fresh (Nat.le_refl _)
  have I1 : Inv X pins σ (upd H s.heap.objs.size (.lst [])) { s with heap := s.heap.push { cls := .type "list", data := .seq #[] } } := I.lnew (its := []) (t' := s.toks) .nil (Nat.zero_le _)
  generalize s.heap.objs.size = p at fr I1 hS ⊢
  show wpAny _ X.A.in1.in1 (do let old ← Builtin.List.listItems (.ref p); Builtin.List.listUpdate (.ref p) (fun _ => #[]); letGo old.toList.reverse; Builtin.List.listExtendWith (.ref p) (.ref a) .none) _ _ _
  refine wpAny_bind ?_
  unfold Builtin.List.listItems
  refine wpAny_bind (wpAny_seqItems hS rfl (wpAny_pure ?_))
  show wpAny _ _ (updateSeq p (fun _ => #[]) >>= fun _ => letGo (#[] : Array Value).toList.reverse >>= fun _ => Builtin.List.listExtendWith (.ref p) (.ref a) .none) _ _ _
  refine wpAny_bind (wpAny_updateSeq hS rfl ?_)
  have I2 := I1.lset (f := fun _ => #[]) (its := []) (its' := []) (ys := []) (t' := s.toks) upd_same hS rfl .nil (Nat.zero_le _)
  rw [upd_upd] at I2
  refine wpAny_bind (wpAny_letGo ?_)
  have S2 : Same H (upd H p (.lst [])) := Rz.Same.new (Same.refl H) fr
  have ha2 := S2 _ _ ha
  have hne : p ≠ a := fun z => by
    subst z
    rw [fr] at ha
    cases ha
  obtain ⟨od, J⟩ := inst_at I2 ha2
  obtain ⟨m0, hF⟩ := I2.fr
  unfold Builtin.List.listExtendWith
  refine wpAny_bind (J.type.here ?_)
  have c1 : Builtin.List.listSameRef (.ref p) (.ref a) = false := by simp [Builtin.List.listSameRef, hne]
  have c2 : (Value.ref C == Value.type "list") = false := rfl
  have c3 : (Value.ref C == Value.type "tuple") = false := rfl
  simp only [c1, c2, c3, Bool.or_false, Bool.false_eq_true, if_false]
  refine wpAny_bind (PySem.W.owit_iter hF I2.ok.mod.kin J MI.at_ MI.fn (wpAny_mono (run_below (A := X.A.in1.in1) (vs := [.ref a]) FI (hr.in1.in1.mono (Nat.le_succ k)) rfl bI I2 (.cons rfl .nil)
    (hI _ (fun v H' => ∃ it, v = .ref it ∧ upd H p (.lst []) it = none ∧ H' = upd (upd H p (.lst [])) it (ItO l it 0)) S2 fun it hit => ⟨it, rfl, hit, rfl⟩)) (fun v s' hv => ?_) fun _ _ z => z))
  obtain ⟨x, H3, I3, rx, it, rfl, hit, rfl⟩ := hv
  obtain rfl : v = Value.ref it := rx
  have S3 : Same H (upd (upd H p (.lst [])) it (ItO l it 0)) := Rz.Same.new S2 hit
  have fit : H it = none := by
    cases e : H it with
    | none => rfl
    | some o => rw [S2 _ _ e] at hit; cases hit
  have nip : it ≠ p := fun z => by
    subst z
    rw [upd_same] at hit
    cases hit
  have ty : s'.TypeIs (.ref it) "list_iterator" := ⟨_, itO_get I3 upd_same, rfl⟩
  unfold PySem.W.OwitIt
  refine wpAny_specialOf ty li_next ?_
  refine wpAny_bind (wpAny_holding ?_)
  have ha3 := S3 _ _ ha
  obtain ⟨od3, J3⟩ := inst_at I3 ha3
  obtain ⟨m3, hF3⟩ := I3.fr
  refine hint_own I3.kIn MN J3 (PySem.W.len_K hF3 I3.ok.mod.kin J3 MN.at_ MN.fn (wpAny_mono (run_below (A := X.A.in1.in1.in1) (vs := [.ref a]) (E' := fun _ _ => False) FN hr.in1.in1.in1 rfl bN I3 (.cons rfl .nil)
    (hN _ (fun v H' => v = .int (n : Nat) ∧ H' = upd (upd H p (.lst [])) it (ItO l it 0)) S3 ⟨rfl, rfl⟩)) (fun v s4 hv => ?_) fun _ _ z => z.elim))
  obtain ⟨x, H4, I4, rx, rfl, rfl⟩ := hv
  obtain ⟨t4, rfl⟩ := rx
  refine ⟨⟨by omega, by omega⟩, (n : Nat), s4.toks, rfl, hlong, ?_⟩
  have eq4 : upd (upd H p (.lst [])) it (ItO l it 0) p = some (.lst []) := by rw [upd_ne (Ne.symm nip), upd_same]
  have J4 : Inv X pins σ (upd (upd H p (.lst [])) it (ItO l it 0)) { s4 with toks := s4.toks + 1 } := I4.tok _
  have last : ∀ s5, Inv X pins σ (upd (upd H p (.lst [])) it (ItO l it 0)) s5 → codeAny (model X.prog X.w) X.A.in1 (.builtin "list.extend.loop" ⟨[.ref p, .ref it, .none], []⟩) (wants (fun r s₂ => r = .none ∧ EP X pins σ Q (.ref p) s₂) X.xe) s5 := fun s5 I5 =>
    lo_loop (A1 := X.A.in1) (H0 := H) (Rs := wants (fun r s₂ => r = .none ∧ EP X pins σ Q (.ref p) s₂) X.xe) (I5.ok.hd hcalm) hq hyz fr fit nip (fun H6 s6 I6 S6 e6 => ⟨rfl, .ref p, H6, I6, rfl, fin H6 p (fun b o e => S6 b o e) fr e6⟩) ys.length 0 _ _ (by omega) (Nat.zero_le _) I5 (fun b o e => S3 b o e) upd_same eq4
  obtain ⟨z, its, kk, r3, hl3, e3⟩ := J4.lstM eq4
  cases r3
  refine wpAny_ite_split (fun _ => ?_) (fun _ => wpAny_pure ⟨plainId_quiet PySem.F.plain_extend_loop _, last _ J4⟩)
  refine wpAny_bind (wpAny_rule ?_)
  refine wpAny_bind ?_
  show wpAny _ _ (updateSeq p (·.push .none) >>= fun _ => updateSeq p (·.pop)) _ _ _
  refine wpAny_bind (wpAny_updateSeq e3 rfl ?_)
  have K2 := J4.lset (f := (·.push Value.none)) (its' := [Value.none]) (ys := [.non]) (t' := s4.toks + 1) eq4 e3 (by simp) (.cons rfl .nil) (by rw [List.length_singleton, sizeLine_eq]; decide)
  obtain ⟨z4, its4, k4, r4, hl4, e4⟩ := K2.lstM upd_same
  obtain ⟨u4, rfl, ru4⟩ := r4.one
  refine wpAny_updateSeq e4 rfl ?_ (by show 1 ≤ sizeLine; rw [sizeLine_eq]; decide) (by show 0 ≤ sizeLine + 1; exact Nat.zero_le _)
  refine wpAny_pure ⟨plainId_quiet PySem.F.plain_extend_loop _, last _ ?_⟩
  have K3 := K2.lset (f := (·.pop)) (its := [u4]) (its' := []) (ys := []) (t' := s4.toks + 1) upd_same e4 (by rfl) .nil (Nat.zero_le _)
  rw [upd_upd] at K3
  have back : ∀ (G : Hp), G p = some (.lst []) → upd G p (.lst []) = G := fun G g => by
    funext b
    by_cases hb : b = p
    · rw [hb, upd_same, g]
    · rw [upd_ne hb]
  rw [back _ eq4] at K3
  exact K3
end
end Rz

namespace Rz
open PySem PySem.Spec PyProof.Rows L2
/-! ### max(list of ints, default=d) -/
section
variable {prog : Program} {w : World} {A : Around} {R : Result → Shared → Prop} {I S : Addr} {f1 wr : List Addr} {n : Nat} {P : Nat → Value → Prop} {St : Nat → Heap → Prop} {kw : List (Str × Value)}
theorem mx_name : (toString "max" ++ toString ".loop" : String) = "max.loop" := by decide
theorem mxd_loop (Wk : Walks prog w A.in1 I f1 wr n P St) (bt : Nat → Nat → Bool) (cmp : CmpOf prog w A.in1 .Gt P bt) (sep : S ∉ f1) : ∀ (k j : Nat) (s : Shared) (best : Value) (c : Nat), n - (j + 1) = k → j + 1 ≤ n → St (j + 1) s.heap → P (argBest bt j) best →
    s.heap.get? S = some { cls := .type "list", dict := none, data := .seq #[best, best] c, slots := #[] } →
    (∀ v h' tk, P (argBest bt (n - 1)) v → (∀ b o, b ∉ wr → b ≠ S → s.heap.get? b = some o → h'.get? b = some o) → R (.ok (.ret v)) { s with heap := h', toks := tk }) → codeAny (model prog w) A (.builtin "max.loop" ⟨[.ref I, .none, .ref S], kw⟩) R s := by
  have sepW : S ∉ wr := fun h => sep (Wk.sub _ h)
  intro k
  induction k with
  | zero =>
    intro j s best c hk hj st pb gS fin
    have last : j + 1 = n := by omega
    refine codeAny_builtin F.entry_max_loop ?_
    rw [Around.under_plainId F.plain_max_loop _]
    show wpAny _ A.in1 (seqItems? (.ref S) >>= _) _ _ s
    refine wpAny_bind (wpAny_seqItems gS rfl ?_)
    show wpAny _ A.in1 (tryCatch (pyNext (.ref I)) _ >>= _) _ _ s
    refine wpAny_bind (wpAny_tryCatch (Wk.done s _ _ (last ▸ st) fun h' tk kk => ?_))
    have gS' := kk S _ sepW gS
    show wpAny _ A.in1 (updateSeq S (fun _ => #[]) >>= _) _ _ _
    refine wpAny_bind ?_
    refine wpAny_updateSeq gS' rfl (wpAny_bind (wpAny_letGo (wpAny_pure ?_)))
    refine fin best _ tk (by rw [← last]; exact pb) fun b o nb nS e => (Heap.get?_update_other _ _ (Ne.symm nS)).trans (kk b o nb e)
  | succ k ih =>
    intro j s best c hk hj st pb gS fin
    have lt : j + 1 < n := by omega
    refine codeAny_builtin F.entry_max_loop ?_
    rw [Around.under_plainId F.plain_max_loop _]
    show wpAny _ A.in1 (seqItems? (.ref S) >>= _) _ _ s
    refine wpAny_bind (wpAny_seqItems gS rfl ?_)
    show wpAny _ A.in1 (tryCatch (pyNext (.ref I)) _ >>= _) _ _ s
    refine wpAny_bind (wpAny_tryCatch (Wk.item (j + 1) s _ _ lt st fun v h' tk pv st' kk => ?_))
    have gS' := kk S _ sepW gS
    show wpAny _ A.in1 (tryCatch (holding [v, v] (richCompare .Gt v best >>= _)) _ >>= _) _ _ _
    refine wpAny_bind (wpAny_tryCatch (wpAny_holding (wpAny_bind (cmp (j + 1) (argBest bt j) v best _ _ _ pv pb ?_))))
    refine wpAny_bind (wpAny_holding (wpAny_truthy_bool ?_))
    refine wpAny_bind (wpAny_letGo (wpAny_pure ?_))
    cases better : bt (j + 1) (argBest bt j) with
    | true =>
      simp only [if_true]
      refine wpAny_bind ?_
      refine wpAny_updateSeq gS' rfl (wpAny_bind (wpAny_letGo ?_))
      rw [mx_name]
      refine wpAny_pure ⟨plainId_quiet F.plain_max_loop _, ih (j + 1) _ v _ (by omega) lt (Wk.frame _ _ _ st' fun b hb o e => (Heap.get?_update_other _ _ (fun h : S = b => sep (by rw [h]; exact hb))).trans e) (by simp only [argBest, better, if_true]; exact pv) (Heap.get?_update_self _ gS' rfl)
        fun v' h2 tk2 pv2 kk2 => fin v' h2 tk2 pv2 fun b o nb nS e => kk2 b o nb nS ((Heap.get?_update_other _ _ (Ne.symm nS)).trans (kk b o nb e))⟩
    | false =>
      simp only [Bool.false_eq_true, if_false]
      refine wpAny_bind (wpAny_letGo ?_)
      rw [mx_name]
      refine wpAny_pure ⟨plainId_quiet F.plain_max_loop _, ih (j + 1) _ best c (by omega) lt st' (by simp only [argBest, better, Bool.false_eq_true, if_false]; exact pb) gS'
        fun v' h2 tk2 pv2 kk2 => fin v' h2 tk2 pv2 fun b o nb nS e => kk2 b o nb nS (kk b o nb e)⟩
theorem mxd_first (Wk : Walks prog w A.in1 I f1 wr n P St) (bt : Nat → Nat → Bool) (cmp : CmpOf prog w A.in1 .Gt P bt) (sep : S ∉ f1) (pos : 0 < n) {s : Shared} {c : Nat} (st : St 0 s.heap)
    (gS : s.heap.get? S = some { cls := .type "list", dict := none, data := .seq #[] c, slots := #[] })
    (fin : ∀ v h' tk, P (argBest bt (n - 1)) v → (∀ b o, b ∉ wr → b ≠ S → s.heap.get? b = some o → h'.get? b = some o) → R (.ok (.ret v)) { s with heap := h', toks := tk }) : codeAny (model prog w) A (.builtin "max.loop" ⟨[.ref I, .none, .ref S], kw⟩) R s := by
  have sepW : S ∉ wr := fun h => sep (Wk.sub _ h)
  refine codeAny_builtin F.entry_max_loop ?_
  rw [Around.under_plainId F.plain_max_loop _]
  show wpAny _ A.in1 (seqItems? (.ref S) >>= _) _ _ s
  refine wpAny_bind (wpAny_seqItems gS rfl ?_)
  show wpAny _ A.in1 (tryCatch (pyNext (.ref I)) _ >>= _) _ _ s
  refine wpAny_bind (wpAny_tryCatch (Wk.item 0 s _ _ pos st fun v h' tk pv st' kk => ?_))
  have gS' := kk S _ sepW gS
  show wpAny _ A.in1 (updateSeq S (fun _ => #[v, v]) >>= _) _ _ _
  refine wpAny_bind ?_
  refine wpAny_updateSeq gS' rfl ?_
  rw [mx_name]
  refine wpAny_pure ⟨plainId_quiet F.plain_max_loop _, mxd_loop Wk bt cmp sep _ 0 _ v _ rfl pos (Wk.frame _ _ _ st' fun b hb o e => (Heap.get?_update_other _ _ (fun h : S = b => sep (by rw [h]; exact hb))).trans e) pv (Heap.get?_update_self _ gS' rfl)
    fun v' h2 tk2 pv2 kk2 => fin v' h2 tk2 pv2 fun b o nb nS e => kk2 b o nb nS ((Heap.get?_update_other _ _ (Ne.symm nS)).trans (kk b o nb e))⟩
theorem mxd_none (Wk : Walks prog w A.in1 I f1 wr 0 P St) (sep : S ∉ f1) {s : Shared} {c : Nat} {x : Str} {d : Value} (st : St 0 s.heap)
    (gS : s.heap.get? S = some { cls := .type "list", dict := none, data := .seq #[] c, slots := #[] })
    (fin : ∀ h' tk, (∀ b o, b ∉ wr → b ≠ S → s.heap.get? b = some o → h'.get? b = some o) → R (.ok (.ret d)) { s with heap := h', toks := tk }) : codeAny (model prog w) A (.builtin "max.loop" ⟨[.ref I, .none, .ref S], [(x, d)]⟩) R s := by
  refine codeAny_builtin F.entry_max_loop ?_
  rw [Around.under_plainId F.plain_max_loop _]
  show wpAny _ A.in1 (seqItems? (.ref S) >>= _) _ _ s
  refine wpAny_bind (wpAny_seqItems gS rfl ?_)
  show wpAny _ A.in1 (tryCatch (pyNext (.ref I)) _ >>= _) _ _ s
  refine wpAny_bind (wpAny_tryCatch (Wk.done s _ _ st fun h' tk kk => ?_))
  exact wpAny_bind (wpAny_rule (wpAny_pure (fin h' tk fun b o nb _ e => kk b o nb e)))
end
section
variable {prog : Program} {w : World} {A : Around} {E : Value → Shared → Prop} {s : Shared} {l : Addr} {xs : Array (Int × Tok)} {d : Value}
theorem mxd_args (a d : Value) : argsOk "max" ⟨[a], [("default", d)]⟩ := by unfold argsOk; kernel_rfl
theorem mxd_entry {Q : Value → Shared → Prop} (h : wpAny (model prog w) A.in1 (pyIter (.ref l)) (fun it s2 => ∃ I f1 wr n P St bt, it = .ref I ∧ Walks prog w A.in1 I f1 wr n P St ∧ St 0 s2.heap ∧ (∀ b ∈ f1, b < s2.heap.objs.size) ∧ CmpOf prog w A.in1 .Gt P bt ∧
      (n = 0 → ∀ h' tk, (∀ b o, b ∉ wr → s2.heap.get? b = some o → h'.get? b = some o) → Q d { s2 with heap := h', toks := tk }) ∧
      (0 < n → ∀ v h' tk, P (argBest bt (n - 1)) v → (∀ b o, b ∉ wr → s2.heap.get? b = some o → h'.get? b = some o) → Q v { s2 with heap := h', toks := tk })) E s) :
    wpAny (model prog w) A (call (.builtin "max") [.ref l] [("default", d)]) Q E s := by
  refine wpAny_call (codeAny_call_builtin F.plain_max F.entry_max ?_)
  have e : checkBuiltinCall "max" ⟨[.ref l], [("default", d)]⟩ = pure () := by
    have ha := mxd_args (.ref l) d
    simp only [checkBuiltinCall, F.kind_max]
    unfold argsOk at ha
    cases hs : Manifest.signature? "max" with
    | none => rfl
    | some sig => rw [hs] at ha; exact ha
  rw [e]
  refine wpAny_pure ?_
  show wpAny _ A.in1 (Builtin.Builtins.bindParams "max" ["key", "default"] 0 ⟨[], [("default", d)]⟩ >>= _) _ _ s
  refine wpAny_bind (wpAny_of_eq (show Builtin.Builtins.bindParams "max" ["key", "default"] 0 ⟨[], [("default", d)]⟩ = pure [none, some d] from rfl) ?_)
  refine wpAny_bind (wpAny_pure ?_)
  refine wpAny_bind (wpAny_mono h (fun it s2 h2 => ?_) fun _ _ e => e)
  obtain ⟨I, f1, wr, n, P, St, bt, rfl, Wk, st, below, cmp, q0, q1⟩ := h2
  refine wpAny_bind (wpAny_newObj_type ?_)
  have sep : s2.heap.objs.size ∉ f1 := fun hm => Nat.lt_irrefl _ (below _ hm)
  rw [mx_name]
  have st2 := Wk.frame _ _ _ st fun b _ o e => Heap.get?_push_of_some { cls := .type "list", data := .seq #[] } e
  rcases Nat.eq_zero_or_pos n with z | pos
  · subst z
    exact wpAny_pure ⟨plainId_quiet F.plain_max_loop _, mxd_none Wk sep st2 (Heap.get?_push_size _ rfl) fun h' tk kk => q0 rfl h' tk fun b o nb e => kk b o nb (Nat.ne_of_lt (Heap.lt_size e)) (Heap.get?_push_of_some _ e)⟩
  · exact wpAny_pure ⟨plainId_quiet F.plain_max_loop _, mxd_first Wk bt cmp sep pos st2 (Heap.get?_push_size _ rfl) fun v h' tk pv kk => q1 pos v h' tk pv fun b o nb e => kk b o nb (Nat.ne_of_lt (Heap.lt_size e)) (Heap.get?_push_of_some _ e)⟩
end
section
variable {X : Cx}
def rMaxDef (K : PySem.W.Frag) : List V → List V → Hp → VK → Prop := fun xs zs H Q => ∃ (l : Addr) (ns : List Int) (d : Int), xs = [.ref l] ∧ zs = [.int d] ∧ SqL K H l (ns.map V.int) ∧ (ns = [] → Q (.int d) H) ∧ (∀ m, m ∈ ns → (∀ y, y ∈ ns → y ≤ m) → Q (.int m) H)
theorem call_maxDef (hc : X.calm = true) : CallRK X (.builtin "max") ["default"] (rMaxDef X.K) := by
  intro pins s σ H xs zs us ws Q I r1 r2 h
  obtain ⟨l, ns, d, rfl, rfl, hs, q0, q1⟩ := h
  obtain ⟨its, rv, hl, _⟩ := I.list hs
  obtain ⟨u, rfl, ru⟩ := vals1 r2
  obtain ⟨td, rfl⟩ := ru
  rw [Vals.ref1 r1]
  have hi := rv.ints
  obtain ⟨as, e⟩ := hi.allInts.items
  have hn : numsOf (intItems as).toList = ns := by rw [← e]; exact hi.numsOf
  rw [nums_intItems] at hn
  subst hn
  have hl2 := hl.isList
  rw [e] at hl2
  show wpAny _ _ (call (.builtin "max") [.ref l] [("default", .int d td)]) _ _ _
  refine mxd_entry (iter_intList hl2 fun s2 e st below hlI => ?_)
  subst e
  refine ⟨_, _, _, _, _, _, _, rfl, Walks.list (A := X.A.in1) (I.ok.hd hc) _ l hlI (intItems as), st, below, CmpOf.ints_gt (numAt as) (fun _ _ => intItems_at), fun hz h' tk kk => ?_, fun pos v h' tk pv kk => ?_⟩
  · have e0 : as.size = 0 := by simpa [intItems] using hz
    exact ⟨.int d, H, I.kept (old_kept kk), ⟨_, rfl⟩, q0 (by rw [Array.eq_empty_of_size_eq_zero e0]; rfl)⟩
  · have p0 : 0 < as.size := by simpa [intItems] using pos
    have pv' : (intItems as)[argBest (fun i j => decide (numAt as i > numAt as j)) (as.size - 1)]? = some v := by simpa [intItems] using pv
    obtain ⟨t, rfl⟩ := intItems_at pv'
    obtain ⟨h1, h2⟩ := argBest_gt (numAt as) (as.size - 1)
    refine ⟨.int _, H, I.kept (old_kept kk), ⟨t, rfl⟩, q1 _ ?_ fun a ha => ?_⟩
    · rw [numAt_eq]
      exact PySem.getD_mem (by rw [List.length_map, Array.length_toList]; omega)
    · obtain ⟨j, hj, rfl⟩ := mem_getD ha
      rw [List.length_map, Array.length_toList] at hj
      rw [← numAt_eq]
      exact h2 j (by omega)
end
end Rz

namespace Rz
open PySem PySem.Spec PyProof.Rows L2
/-! ### rows: pairs of a sign's code and a height -/
abbrev Pr := Nat × Int
def prV (p : Pr) : List V := [.str ⟨#[p.1]⟩, .int p.2]
/-- the tuples ts are the pairs ps -/
def PAt (H : Hp) (ts : List Addr) (ps : List Pr) : Prop := Paired (fun (t : Addr) (p : Pr) => H t = some (.tup (prV p))) ts ps
/-- a list of such tuples -/
def LAt (H : Hp) (l : Addr) (ps : List Pr) : Prop := ∃ ts : List Addr, H l = some (.lst (ts.map V.ref)) ∧ PAt H ts ps
/-- a row: its list stands at l -/
def RAt (cR : Addr) (H : Hp) (p l : Addr) (ps : List Pr) : Prop := ∃ dx, H p = some (.ins cR dx [("_pairs", .ref l)]) ∧ LAt H l ps
/-- signs with heights -/
def GoodR (ps : List Pr) : Prop := ∀ p ∈ ps, oddC p.1 = false ∧ 0 ≤ p.2 ∧ p.2 ≤ 9
def tx (ps : List Pr) : Str := ⟨(ps.map (·.1)).toArray⟩
def hts (ps : List Pr) : List Int := ps.map (·.2)
theorem tx_len (ps : List Pr) : (tx ps).length = ps.length := by
  show (ps.map (·.1)).toArray.size = _
  rw [List.size_toArray, List.length_map]
theorem tx_list (ps : List Pr) : (tx ps).cps.toList = ps.map (·.1) := rfl
theorem hts_len (ps : List Pr) : (hts ps).length = ps.length := List.length_map ..
/-- tuples stay -/
def Tups (H H' : Hp) : Prop := ∀ b xs, H b = some (.tup xs) → H' b = some (.tup xs)
theorem Tups.of {H H' : Hp} (h : Same H H') : Tups H H' := fun b _ e => h b _ e
theorem Tups.but {D : List Addr} {H H' : Hp} (h : But D H H') (n : ∀ d ∈ D, ∀ xs, H d ≠ some (.tup xs)) : Tups H H' := fun b xs e => h b _ (fun hb => n b hb xs e) e
theorem Tups.trans {H H1 H2 : Hp} (a : Tups H H1) (b : Tups H1 H2) : Tups H H2 := fun c xs e => b c xs (a c xs e)
theorem Tups.upd {H H' : Hp} {p : Addr} {o : HO} (a : Tups H H') (n : ∀ xs, H' p ≠ some (.tup xs)) : Tups H (L2.upd H' p o) := fun c xs e => by
  have e1 := a c xs e
  rw [upd_ne (fun z => n xs (by rw [← z]; exact e1))]
  exact e1
theorem PAt.keep {H H' : Hp} (h : Tups H H') : ∀ {ts : List Addr} {ps : List Pr}, PAt H ts ps → PAt H' ts ps
  | _, _, .nil => .nil
  | _, _, .cons e t => .cons (h _ _ e) (PAt.keep h t)
theorem PAt.length {H : Hp} {ts : List Addr} {ps : List Pr} (h : PAt H ts ps) : ts.length = ps.length := Paired.length h
theorem PAt.append {H : Hp} : ∀ {ts us : List Addr} {ps qs : List Pr}, PAt H ts ps → PAt H us qs → PAt H (ts ++ us) (ps ++ qs)
  | _, _, _, _, .nil, s => s
  | _, _, _, _, .cons e t, s => .cons e (PAt.append t s)
theorem PAt.set {H : Hp} {t : Addr} {p : Pr} (e : H t = some (.tup (prV p))) : ∀ {ts : List Addr} {ps : List Pr} (i : Nat), PAt H ts ps → PAt H (ts.set i t) (ps.set i p)
  | _, _, _, .nil => .nil
  | _, _, 0, .cons _ r => .cons e r
  | _, _, i + 1, .cons a r => .cons a (PAt.set e i r)
theorem PAt.rep {H : Hp} {ts : List Addr} {ps : List Pr} (h : PAt H ts ps) : ∀ n : Nat, PAt H (List.replicate n ts).flatten (List.replicate n ps).flatten
  | 0 => .nil
  | n + 1 => by
    rw [List.replicate_succ, List.replicate_succ, List.flatten_cons, List.flatten_cons]
    exact PAt.append h (PAt.rep h n)
theorem PAt.get {H : Hp} : ∀ {ts : List Addr} {ps : List Pr} {i : Nat} {t : Addr}, PAt H ts ps → ts[i]? = some t → ∃ p, ps[i]? = some p ∧ H t = some (.tup (prV p))
  | _, _, i, t, .nil, h => by cases h
  | _, _, 0, t, .cons e r, h => by
    have z := Option.some.inj h
    subst z
    exact ⟨_, rfl, e⟩
  | _, _, i + 1, t, .cons e r, h => PAt.get (i := i) r (by simpa using h)
theorem refs_get {ts : List Addr} {i : Nat} {y : V} (h : (ts.map V.ref)[i]? = some y) : ∃ t, ts[i]? = some t ∧ y = .ref t := by
  rw [List.getElem?_map] at h
  cases e : ts[i]? with
  | none => rw [e] at h; cases h
  | some u => rw [e] at h; exact ⟨u, rfl, (Option.some.inj h).symm⟩
theorem LAt.keep {H H' : Hp} {l : Addr} {ps : List Pr} (h : Tups H H') (e : H' l = H l) (a : LAt H l ps) : LAt H' l ps := let ⟨ts, h1, h2⟩ := a; ⟨ts, e.trans h1, h2.keep h⟩
theorem LAt.same {H H' : Hp} {l : Addr} {ps : List Pr} (h : Same H H') (a : LAt H l ps) : LAt H' l ps := let ⟨ts, h1, h2⟩ := a; ⟨ts, h _ _ h1, h2.keep (.of h)⟩
theorem LAt.at {H : Hp} {l : Addr} {ps : List Pr} (a : LAt H l ps) : ∃ ts : List Addr, H l = some (.lst (ts.map V.ref)) ∧ ts.length = ps.length := let ⟨ts, h1, h2⟩ := a; ⟨ts, h1, h2.length⟩
theorem RAt.same {H H' : Hp} {cR p l : Addr} {ps : List Pr} (h : Same H H') (a : RAt cR H p l ps) : RAt cR H' p l ps := let ⟨dx, h1, h2⟩ := a; ⟨dx, h _ _ h1, h2.same h⟩
theorem RAt.keep {H H' : Hp} {cR p l : Addr} {ps : List Pr} (h : Tups H H') (e : H' p = H p) (e2 : H' l = H l) (a : RAt cR H p l ps) : RAt cR H' p l ps := let ⟨dx, h1, h2⟩ := a; ⟨dx, e.trans h1, h2.keep h e2⟩
/-- what list(zip(signs, heights)) gives -/
theorem zkv_pairs {H : Hp} {ts : List Addr} {x : Str} {ns : List Int} (h : Paired (fun (t : Addr) (u : Key × V) => H t = some (.tup [kV u.1, u.2])) ts (zkv x (ns.map V.int))) : PAt H ts (x.cps.toList.zip ns) := by
  unfold zkv at h
  generalize x.cps.toList = cs at h ⊢
  induction cs generalizing ts ns with
  | nil => cases h; exact .nil
  | cons c cs ih =>
    cases ns with
    | nil => cases h; exact .nil
    | cons n ns =>
      cases h with
      | cons e r => exact .cons e (ih r)
theorem join_signs (ps : List Pr) : Txt.join "" (ps.map fun p => (⟨#[p.1]⟩ : Str)) = tx ps := by
  have h := join0 (ps.map fun p => (⟨#[p.1]⟩ : Str))
  have e : ((ps.map fun p => (⟨#[p.1]⟩ : Str)).map fun y => y.cps.toList).flatten = ps.map (·.1) := by
    rw [List.map_map]
    clear h
    induction ps with
    | nil => rfl
    | cons p ps ih => rw [List.map_cons, List.flatten_cons, ih]; rfl
  rw [e] at h
  generalize Txt.join "" (ps.map fun p => (⟨#[p.1]⟩ : Str)) = j at h
  cases j with
  | mk a =>
    have h2 : a = (ps.map (·.1)).toArray := by
      rw [← h]
    rw [h2]
    rfl
theorem zip_tx {z : Str} {ns : List Int} (h : ns.length = z.length) : (z.cps.toList.zip ns).map (·.1) = z.cps.toList := by
  rw [List.map_fst_zip]
  rw [h]
  exact Nat.le_refl _
theorem zip_hts {z : Str} {ns : List Int} (h : ns.length = z.length) : (z.cps.toList.zip ns).map (·.2) = ns := by
  rw [List.map_snd_zip]
  rw [h]
  exact Nat.le_refl _
theorem tx_hts_zip (ps : List Pr) : (tx ps).cps.toList.zip (hts ps) = ps := by
  rw [tx_list]
  induction ps with
  | nil => rfl
  | cons p ps ih =>
    show (p.1, p.2) :: _ = _
    exact congrArg (p :: ·) ih
/-- a height that is none -/
def badH (n : Int) : Bool := decide (n < 0) || decide (9 < n)
/-- what becomes of Row(z, ns) -/
inductive RR | sign (i : Nat) | uneven | height (n : Int) | row
def rr (z : Str) (ns : List Int) : RR := match fo z with
  | some i => .sign i
  | none => if ns.length ≠ z.length then .uneven else match ns.find? badH with
    | some n => .height n
    | none => .row
theorem rr_good {ps : List Pr} (h : GoodR ps) : rr (tx ps) (hts ps) = .row := by
  have e1 : fo (tx ps) = none := fo_none fun j c hj => by
    rw [tx_list, List.getElem?_map] at hj
    cases e : ps[j]? with
    | none => rw [e] at hj; cases hj
    | some p =>
      rw [e] at hj
      have e2 := Option.some.inj hj
      rw [← e2]
      exact (h p (List.mem_of_getElem? e)).1
  have e2 : (hts ps).find? badH = none := by
    rw [List.find?_eq_none]
    intro n hn
    obtain ⟨p, hp, rfl⟩ := List.mem_map.mp hn
    have h2 := (h p hp).2
    unfold badH
    simp
    omega
  unfold rr
  rw [e1]
  dsimp only
  rw [if_neg (by rw [tx_len, hts_len]; simp), e2]
end Rz
namespace Rz
open PySem PySem.Spec PyProof.Rows L2
/-- a comprehension over such a list -/
theorem lc_pairs {K : PySem.W.Frag} {l : Addr} {ps : List Pr} {g : TG} {te : TE} {vs : List Nat} {σ : L2.St} {H1 : Hp} {D : Addr} {Qd : Hp → Prop} (f : Pr → V) (hL : LAt H1 l ps) (hz : ps.length ≤ sizeLine) (hD : H1 D = none)
    (body : ∀ (t : Addr) (p : Pr) (H : Hp) (Q : VK), p ∈ ps → Same H1 H → H t = some (.tup (prV p)) → (∀ H4, Same H H4 → Q (f p) H4) → g (.ref t) (wipe σ vs) H fun σ2 H2 => wipe σ2 vs = wipe σ vs ∧ te σ2 H2 Q)
    (hd : ∀ H, Same H1 H → H D = some (.lst (ps.map f)) → Qd H) :
    ∃ W : Nat → Nat → Hp → Prop, (∃ m, W 0 m (upd H1 D (.lst []))) ∧ ∀ i m H, W i m H →
      ((Itl K l).stop i H ∧ Qd H) ∨ ((Itl K l).go i H ∧ ∃ Nx : Hp → Prop, (∀ H', Nx H' → ∃ m', m' < m ∧ W (i + 1) m' H') ∧ ∀ x H', (Itl K l).yld i H x H' → g x (wipe σ vs) H' fun σ2 H2 => wipe σ2 vs = wipe σ vs ∧ tYes σ2 H2 fun b H3 =>
        if b = true then te σ2 H3 fun y H4 => ∃ acc, H4 D = some (.lst acc) ∧ acc.length < sizeLine ∧ Nx (upd H4 D (.lst (acc ++ [y]))) else Nx H3) := by
  obtain ⟨ts, hl, hP⟩ := hL
  refine lc_list (K := K) (a := l) (xs := ts.map V.ref) (fun i H => Same H1 H ∧ H D = some (.lst ((ps.take i).map f))) ⟨Rz.Same.new (Same.refl H1) hD, upd_same⟩ (fun i H _ h => SqL.of (h.1 _ _ hl)) (fun i x H hx h => ?_) (fun H h => hd H h.1 ?_)
  · obtain ⟨S, e⟩ := h
    obtain ⟨t, ht, rfl⟩ := refs_get hx
    obtain ⟨p, hp, h2⟩ := hP.get ht
    have hi : i < ps.length := (List.getElem?_eq_some_iff.mp hp).1
    refine body t p H _ (List.mem_of_getElem? hp) S (S _ _ h2) fun H4 S4 => ⟨_, S4 _ _ e, ?_, Rz.Same.upd (S.trans S4) hD, ?_⟩
    · rw [List.length_map, List.length_take]
      omega
    · rw [upd_same, List.take_add_one, hp, List.map_append]
      rfl
  · have := h.2
    rw [List.length_map, hP.length, List.take_length] at this
    exact this
end Rz
namespace Rz
open PySem PySem.Spec PyProof.Rows L2
theorem LAt.but {D : List Addr} {H H' : Hp} {l : Addr} {ps : List Pr} (a : LAt H l ps) (B : But D H H') (n : l ∉ D) (t : Tups H H') : LAt H' l ps := let ⟨ts, h1, h2⟩ := a; ⟨ts, B.at h1 n, h2.keep t⟩
theorem RAt.but {D : List Addr} {H H' : Hp} {cR p l : Addr} {ps : List Pr} (a : RAt cR H p l ps) (B : But D H H') (n1 : p ∉ D) (n2 : l ∉ D) (t : Tups H H') : RAt cR H' p l ps := let ⟨dx, h1, h2⟩ := a; ⟨dx, B.at h1 n1, h2.but B n2 t⟩
theorem LAt.upd {H : Hp} {l q : Addr} {ps : List Pr} {o : HO} (a : LAt H l ps) (n : l ≠ q) (t : ∀ xs, H q ≠ some (.tup xs)) : LAt (L2.upd H q o) l ps := let ⟨ts, h1, h2⟩ := a; ⟨ts, by rw [upd_ne n]; exact h1, h2.keep (Tups.upd (fun _ _ e => e) t)⟩
theorem RAt.upd {H : Hp} {cR p l q : Addr} {ps : List Pr} {o : HO} (a : RAt cR H p l ps) (n1 : p ≠ q) (n2 : l ≠ q) (t : ∀ xs, H q ≠ some (.tup xs)) : RAt cR (L2.upd H q o) p l ps := let ⟨dx, h1, h2⟩ := a; ⟨dx, by rw [upd_ne n1]; exact h1, h2.upd n2 t⟩
theorem Dr.but {D : List Addr} {H H' : Hp} {d : Addr} (a : Dr H d) (B : But D H H') (n : d ∉ D) : Dr H' d := let ⟨ns, h1, h2⟩ := a; ⟨ns, B.at h1 n, h2⟩
theorem Dr.upd {H : Hp} {d q : Addr} {o : HO} (a : Dr H d) (n : d ≠ q) : Dr (L2.upd H q o) d := let ⟨ns, h1, h2⟩ := a; ⟨ns, by rw [upd_ne n]; exact h1, h2⟩
theorem LAt.isL {H : Hp} {l : Addr} {ps : List Pr} (a : LAt H l ps) : ∃ xs, H l = some (.lst xs) := let ⟨ts, h1, _⟩ := a; ⟨_, h1⟩
theorem RAt.isI {H : Hp} {cR p l : Addr} {ps : List Pr} (a : RAt cR H p l ps) : ∃ dx fs, H p = some (.ins cR dx fs) := let ⟨dx, h1, _⟩ := a; ⟨dx, _, h1⟩
theorem RAt.lst {H : Hp} {cR p l : Addr} {ps : List Pr} (a : RAt cR H p l ps) : LAt H l ps := let ⟨_, _, h⟩ := a; h
theorem Dr.isL {H : Hp} {d : Addr} (a : Dr H d) : ∃ xs, H d = some (.lst xs) := let ⟨ns, h1, _⟩ := a; ⟨_, h1⟩
/-- a list and a row stand apart -/
theorem apartLI {H : Hp} {l p cR m : Addr} {ps : List Pr} (h : ∃ xs, H l = some (.lst xs)) (r : RAt cR H p m ps) : l ≠ p := by
  obtain ⟨xs, e⟩ := h
  obtain ⟨dx, fs, e2⟩ := r.isI
  exact ne_of e e2 fun z => nomatch z
theorem apartLT {H : Hp} {l t : Addr} {ys : List V} (h : ∃ xs, H l = some (.lst xs)) (e2 : H t = some (.tup ys)) : l ≠ t := by
  obtain ⟨xs, e⟩ := h
  exact ne_of e e2 fun z => nomatch z
theorem apartNew {H : Hp} {x y : Addr} (h : ∃ o, H x = some o) (n : H y = none) : x ≠ y := let ⟨_, e⟩ := h; ne_of_none e n
theorem LAt.some {H : Hp} {l : Addr} {ps : List Pr} (a : LAt H l ps) : ∃ o, H l = Option.some o := let ⟨ts, h1, _⟩ := a; ⟨_, h1⟩
theorem RAt.some {H : Hp} {cR p l : Addr} {ps : List Pr} (a : RAt cR H p l ps) : ∃ o, H p = Option.some o := let ⟨dx, h1, _⟩ := a; ⟨_, h1⟩
theorem Dr.some {H : Hp} {d : Addr} (a : Dr H d) : ∃ o, H d = Option.some o := let ⟨ns, h1, _⟩ := a; ⟨_, h1⟩
theorem not_tupL {H : Hp} {l : Addr} (h : ∃ xs, H l = some (.lst xs)) : ∀ xs, H l ≠ some (.tup xs) := fun ys e => by
  obtain ⟨xs, e2⟩ := h
  rw [e2] at e
  cases e
theorem not_tupI {H : Hp} {cR p l : Addr} {ps : List Pr} (r : RAt cR H p l ps) : ∀ xs, H p ≠ some (.tup xs) := fun ys e => by
  obtain ⟨dx, fs, e2⟩ := r.isI
  rw [e2] at e
  cases e
theorem not_tupN {H : Hp} {p : Addr} (h : H p = none) : ∀ xs, H p ≠ some (.tup xs) := fun ys e => by
  rw [h] at e
  cases e
theorem tups1 {H H' : Hp} {x : Addr} (B : But [x] H H') (n : ∀ xs, H x ≠ some (.tup xs)) : Tups H H' := Tups.but B fun d hd xs => by
  have e : d = x := by simpa using hd
  rw [e]
  exact n xs
theorem nin1 {x y : Addr} (n : x ≠ y) : x ∉ [y] := by simpa using n
end Rz

namespace Rz
open PySem PySem.Spec PyProof.Rows L2
/-! ### slice objects as values; own classes that are asked with slices -/
theorem sl_ga_slot : Slot "slice" "__getattribute__" "slice.__getattribute__" :=
  .of (owner := "slice") (n := "__getattribute__") (by rw [typeLookup_type, builtinLookup_eq_fast]; kernel_rfl) (by decide +kernel) (by decide +kernel) (by decide +kernel) (by first | exact .inl (by decide +kernel) | exact .inr (by decide +kernel)) (by rw [isSubtype_type]; kernel_rfl)
theorem sl_ga_args (a b : Value) : argsOk "slice.__getattribute__" ⟨[a, b], []⟩ := by unfold argsOk; kernel_rfl
theorem sl_ga_entry : entryFor table "slice.__getattribute__" = some Builtin.«object.__getattribute__» := entryFor_alias (id' := "object.__getattribute__") (by kernel_rfl) (by first | rfl | decide +kernel) (by decide +kernel) (by kernel_rfl)
theorem sl_lk_class : typeLookup (.type "slice") "__class__" = pure (some (.builtin "object.__class__")) := by rw [typeLookup_type, builtinLookup_eq_fast]; kernel_rfl
theorem sl_sub_owner : isSubtype (.type "slice") (.type (".".intercalate ("object.__class__".cutAt '.').dropLast)) = pure true := by rw [F.owner_object_class, isSubtype_type]; kernel_rfl
section
variable {prog : Program} {w : World} {A : Around} {E : Value → Shared → Prop} {h : Heap} {g : Array GenState} {d : Drawn} {t : Nat} {os : OsState} {a : Addr} {o : Obj}
theorem sl_class_get {R : Result → Shared → Prop} (hx : h.get? a = some o) (hc : o.cls = .type "slice") (hq : R (.ok (.ret (.type "slice"))) ⟨h, g, d, t, os⟩) : codeAny (model prog w) A (.call (.builtin "getset_descriptor.__get__") ⟨[.builtin "object.__class__", .ref a, .type "slice"], []⟩) R ⟨h, g, d, t, os⟩ := by
  have hTs : (⟨h, g, d, t, os⟩ : Shared).TypeIs (.ref a) "slice" := ⟨_, hx, hc⟩
  have hTg : (⟨h, g, d, t, os⟩ : Shared).TypeIs (.builtin "object.__class__") "getset_descriptor" := F.typeOf_object_class
  have f1 := sl_sub_owner
  refine codeAny_call_builtin F.slot_gs_get.plain F.entry_gs_get (F.slot_gs_get.check _ _ _ _ _ _ _ _ hTg (F.args_gs_get _ _ _) ?_)
  repeat (any_goals (first | assumption | wp_step))
  refine ⟨Code.quiet_builtin _ (by decide +kernel), codeAny_builtin F.entry_object_class ?_⟩
  repeat (any_goals (first | assumption | wp_step))
theorem sl_class_entry {tk : Tok} {Q : Fin → Shared → Prop} (hx : h.get? a = some o) (hc : o.cls = .type "slice") (hq : Q (.done (.ret (.type "slice"))) ⟨h, g, d, t, os⟩) : wpAny (model prog w) A (Builtin.«object.__getattribute__» ⟨[.ref a, .str "__class__" tk], []⟩) Q E ⟨h, g, d, t, os⟩ := by
  have hTs : (⟨h, g, d, t, os⟩ : Shared).TypeIs (.ref a) "slice" := ⟨_, hx, hc⟩
  have hTg : (⟨h, g, d, t, os⟩ : Shared).TypeIs (.builtin "object.__class__") "getset_descriptor" := F.typeOf_object_class
  have f1 := sl_lk_class
  have f2 := F.typeOf_object_class
  have f3 := F.slot_gs_get.lookup
  have f4 := F.slot_gs_set.lookup
  repeat (any_goals (first | assumption | wp_step))
  refine sl_class_get hx hc ?_
  repeat (any_goals (first | assumption | wp_step))
theorem sl_class_call {tk : Tok} {R : Result → Shared → Prop} (hx : h.get? a = some o) (hc : o.cls = .type "slice") (hq : R (.ok (.ret (.type "slice"))) ⟨h, g, d, t, os⟩) : codeAny (model prog w) A (.call (.builtin "slice.__getattribute__") ⟨[.ref a, .str "__class__" tk], []⟩) R ⟨h, g, d, t, os⟩ :=
  codeAny_call_builtin sl_ga_slot.plain sl_ga_entry (sl_ga_slot.check _ _ _ _ _ _ _ _ (show (⟨h, g, d, t, os⟩ : Shared).TypeIs (.ref a) "slice" from ⟨_, hx, hc⟩) (sl_ga_args _ _) (sl_class_entry hx hc hq))
theorem sl_class_by {tk : Tok} {Q : Value → Shared → Prop} (hx : h.get? a = some o) (hc : o.cls = .type "slice") (hq : Q (.type "slice") ⟨h, g, d, t, os⟩) : wpAny (model prog w) A (getAttrBy (.ref a) (.str "__class__" tk) false) Q E ⟨h, g, d, t, os⟩ := by
  have hTs : (⟨h, g, d, t, os⟩ : Shared).TypeIs (.ref a) "slice" := ⟨_, hx, hc⟩
  have f1 := sl_ga_slot.lookup
  have f2 := sl_ga_slot.bind (.ref a)
  repeat (any_goals (first | assumption | wp_step))
  refine sl_class_call hx hc ?_
  repeat (any_goals (first | assumption | wp_step))
theorem sl_class_attr {Q : Option Value → Shared → Prop} (hx : h.get? a = some o) (hc : o.cls = .type "slice") (hq : Q (some (.type "slice")) ⟨h, g, d, t + 1, os⟩) : wpAny (model prog w) A (getAttr? (.ref a) "__class__") Q E ⟨h, g, d, t, os⟩ := by
  unfold getAttr? getAttrBy?
  repeat (any_goals (first | assumption | with_reducible apply sl_class_by hx hc | wp_step))
end
/-- the slice lo:hi stands at a -/
def SlO (a : Addr) (lo hi : Int) : HO := .ext fun h => ∃ t u, h.IsSliceOf a (.int lo t) (.int hi u) .none
theorem slO_ok {P : Program} {w : World} {H : Hp} {h : Heap} {a : Addr} {lo hi : Int} {t u : Tok} (e : h.IsSliceOf a (.int lo t) (.int hi u) .none) : ObjOk P w H h a (SlO a lo hi) := by
  obtain ⟨o, e1, r⟩ := e
  exact ⟨⟨t, u, o, e1, r⟩, ⟨o, e1⟩, fun h1 h2 ⟨t, u, o, e1, r⟩ k => ⟨t, u, o, k _ e1, r⟩⟩
theorem slO_get {X : Cx} {pins : List (Addr × Obj)} {σ : L2.St} {H : Hp} {s : Shared} {a : Addr} {lo hi : Int} (I : Inv X pins σ H s) (e : H a = some (SlO a lo hi)) : ∃ t u, s.heap.IsSliceOf a (.int lo t) (.int hi u) .none := by
  obtain ⟨p, _, _⟩ := (show ObjOk X.prog X.w H s.heap a (SlO a lo hi) from I.hok a _ e)
  exact p
section
variable {X : Cx} {k : Nat} {f C : Addr} {fd : FuncData} {ps : List Str} {sp : Sp}
/-- isinstance(x, T) of a slice -/
theorem call_isiSl : CallR X (.builtin "isinstance") (fun xs H Q => ∃ (a : Addr) (lo hi : Int) (c : V) (u : Value) (b : Bool), xs = [.ref a, c] ∧ ClsV c u ∧ H a = some (SlO a lo hi) ∧ PySem.W.kitOne X.K (.type "slice") u = some b ∧ Q (.bl b) H) := by
  intro pins s σ H xs us Q I r h
  obtain ⟨a, lo, hi, c, u, b, rfl, kc, ea, e, q⟩ := h
  obtain ⟨u1, u2, rfl, r1, r2⟩ := vals2 r
  have e2 := kc.eq r2
  subst e2
  obtain rfl : u1 = Value.ref a := r1
  obtain ⟨t, u, o, e1, hc, _⟩ := slO_get I ea
  have Z : PySem.W.KitX X.K (.ref a) (.type "slice") (PySem.W.KitAt a "slice") := PySem.W.kitx_of PySem.W.kitAt_ty (fun {_ _ _ _ _ s} p k => by obtain ⟨h, g, d, t, os⟩ := s; obtain ⟨o, h1, h2⟩ := p; exact sl_class_attr h1 h2 k)
  exact PySem.W.kia_one Z I.kIn ⟨o, e1, hc⟩ e (fun z => nomatch z) fun tk => ⟨.bl b, H, I.tok tk, rfl, q⟩
/-- xs[s] of a list, s a slice -/
theorem ix_sliceV : IxR X (fun x y H Q => ∃ (p sl : Addr) (lo hi : Int) (xs : List V), x = .ref p ∧ y = .ref sl ∧ SqL X.K H p xs ∧ H sl = some (SlO sl lo hi) ∧ ∀ q, H q = none → Q (.ref q) (upd H q (.lst (cutV xs (some lo) (some hi))))) := by
  intro value slice pins s σ H x y v u Q I rx ry h hs
  obtain ⟨p, sl, lo, hi, xs, rfl, rfl, hq, es, q⟩ := h
  cases rx
  cases ry
  obtain ⟨t, u, hsl⟩ := slO_get I es
  obtain ⟨its, r, pl, hz⟩ := I.list hq
  have hlen := r.length
  refine tail_any (ops := [.ref p, .ref sl]) pl.isList.typeIs slot_list_getitem.lookup ?_ hs
  refine wpAny_getItem_list_slice pl.isList hsl (.int _ _) (.int _ _) .none (by simp) ?_ (by rw [List.size_toArray] <;> omega)
  rw [slicePick_cut, ← hlen]
  refine ⟨.ref s.heap.objs.size, _, I.laid (t' := s.toks) (o := .lst (cutV xs (some lo) (some hi))) (fun b ob q => Heap.get?_push_of_some _ q) (Nat.le_refl _) ?_, rfl, q _ (I.hok.fresh (Nat.le_refl _))⟩
  exact ⟨Nat.le_trans (cutV_length xs _ _) hz, _, 0, (r.drop _).take _, Heap.get?_push_size _ rfl⟩
/-- xs[s] = ys of lists, s a slice -/
theorem set_sliceV : PSet X (fun o i v H Q => ∃ (l b sl : Addr) (lo hi : Int) (xs ys : List V), o = .ref l ∧ i = .ref sl ∧ v = .ref b ∧ H l = some (.lst xs) ∧ H b = some (.lst ys) ∧ H sl = some (SlO sl lo hi) ∧ l ≠ b ∧ 0 ≤ lo ∧ lo ≤ hi ∧ hi ≤ xs.length ∧ xs.length + ys.length ≤ sizeLine ∧
    Q (upd H l (.lst (xs.take lo.toNat ++ ys ++ xs.drop hi.toNat)))) := by
  intro pins s σ H o i v ov iv u Q I r1 r2 r3 h
  obtain ⟨l, b, sl, lo, hi, xs, ys, rfl, rfl, rfl, hl, hb, es, ne, h0, h1, h2, hz, q⟩ := h
  cases r1
  cases r2
  cases r3
  obtain ⟨t, u, hsl⟩ := slO_get I es
  exact set_slice I hl hb ne hsl ⟨_, rfl⟩ ⟨_, rfl⟩ h0 h1 h2 hz fun s' I' => ⟨_, I', q⟩
variable {e : Expr} {lo hi : Expr} {te : TE} {tl th : TE} {pos p2 : Pos}
theorem sub_own {x : Addr} {h₀ : Heap} {L : Addr} {m : Str → Option Value} {od : Option Obj} {ox : Obj} {prog : Program} {w : World} {A : Around} {E : Value → Shared → Prop} {s : Shared} {K : PySem.W.Frag} {value lo hi : Expr} {i : Value} {Q : Value → Shared → Prop} (hF : Fr h₀ L s.heap m) (hX : K.In h₀) (J : PySem.W.InstAt s.heap x ox C od) (M : Meth K C "__getitem__" f) (hn : PySem.W.noSeq K C = true) (hf : PySem.W.fnIn K f = true)
    (h : wpAny (model prog w) A (call (.ref f) [.ref x, i]) Q E s) : wpAny (model prog w) A (subscriptTail value (.Slice (some lo) (some hi) none p2) (.ref x) i) Q E s := by
  have Y := hX.keeps hF.keep
  unfold PySem.W.fnIn at hf
  split at hf
  · rename_i ef
    unfold subscriptTail getitemInPython
    refine wpAny_bind (wpAny_bind (wpAny_bind (J.type.here ((PySem.W.looks_findIn Y M.at_).here ?_))))
    dsimp only
    refine wpAny_bind (wpAny_load (Y _ _ ef) (wpAny_pure ?_))
    dsimp only
    show wpAny _ _ (operate [i, .ref x] (getItem (.ref x) i) >>= _) _ _ _
    refine wpAny_bind (wpAny_operating (PySem.W.getItem_K hF hX J hn M.at_ M.fn (wpAny_mono h (fun v s' z => ?_) fun _ _ z => z)))
    exact wpAny_bind (wpAny_letTemporaryGo (wpAny_pure z))
  · cases hf
theorem fn_in {x qual : Str} {st : Stmt} {g : Addr} {K : PySem.W.Frag} {gd : FuncData} (F : Fun K x qual st g gd) : PySem.W.fnIn K g = true := by
  obtain ⟨_, _, _, _, _, _, _, _, _, _, lk, _⟩ := F.ex
  unfold PySem.W.fnIn
  rw [lk]
/-- x[lo:hi] by the own __getitem__, nothing is raised -/
def tSlG (C : Addr) (sp : Sp) (te tl th : TE) : TE := fun σ H Q => te σ H fun x H1 => tl σ H1 fun l H2 => ∃ i, l = .int i ∧ th σ H2 fun u H3 => ∃ j, u = .int j ∧ ∃ (a dx : Addr) (fs : List (Str × V)), x = .ref a ∧ H3 a = some (.ins C dx fs) ∧ ∀ sl, H3 sl = none → sp [.ref a, .ref sl] (upd H3 sl (SlO sl i j)) Q E0
theorem pe_sliceG (M : Meth X.K C "__getitem__" f) (hn : PySem.W.noSeq X.K C = true) (hf : PySem.W.fnIn X.K f = true) (G : FnOk X.prog X.w X.K X.mg X.base (L2.CX X.prog X.w) k f fd ps sp) (hr : Room k X.A) (hb : Binds X.K fd ps []) (he : PE X e te) (hl : PE X lo tl) (hu : PE X hi th) : PE X (.Subscript e (.Slice (some lo) (some hi) none p2) pos) (tSlG C sp te tl th) := by
  refine ⟨fun pins s σ H Q I h => ?_⟩
  refine Subscript_ (thn (he.run pins s σ H _ I h) fun v s1 ⟨x, H1, I1, r1, q1⟩ => ?_)
  refine wpAny_Slice ?_
  rw [evalPart_some, evalPart_some, evalPart_none]
  refine thn (hl.run pins s1 σ H1 _ I1 q1) fun vl s2 ⟨l, H2, I2, r2, i, el, q2⟩ => thn (hu.run pins s2 σ H2 _ I2 q2) fun vu s3 ⟨u, H3, I3, r3, j, eu, a, dx, fs, ex, ea, q3⟩ => ?_
  subst el eu ex
  obtain ⟨t2, rfl⟩ := r2
  obtain ⟨t3, rfl⟩ := r3
  obtain rfl : v = Value.ref a := r1
  refine wpAny_pure ?_
  have nsl : H3 s3.heap.objs.size = none := I3.hok.fresh (Nat.le_refl _)
  have I4 := I3.laid (t' := s3.toks) (o := SlO s3.heap.objs.size i j) (fun b ob q => Heap.get?_push_of_some { cls := .type "slice", data := .fields #[.int i t2, .int j t3, .none] } q) (Nat.le_refl _) (slO_ok (Heap.IsSliceOf.new ..))
  have ea4 : upd H3 s3.heap.objs.size (SlO s3.heap.objs.size i j) a = some (.ins C dx fs) := by rw [upd_ne (ne_of_none ea nsl)]; exact ea
  obtain ⟨od, J⟩ := inst_at I4 ea4
  obtain ⟨m0, hF⟩ := I4.fr
  exact sub_own hF I4.ok.mod.kin J M hn hf (run_below (vs := [.ref a, .ref s3.heap.objs.size]) G hr rfl hb I4 (.cons rfl (.cons rfl .nil)) (q3 _ nsl))
/-- x[lo:hi] = v by the own __setitem__, nothing is raised -/
def gSlS (C : Addr) (sp : Sp) (te tl th : TE) : TG := fun v σ H Q => te σ H fun x H1 => tl σ H1 fun l H2 => ∃ i, l = .int i ∧ th σ H2 fun u H3 => ∃ j, u = .int j ∧ ∃ (a dx : Addr) (fs : List (Str × V)), x = .ref a ∧ H3 a = some (.ins C dx fs) ∧ ∀ sl, H3 sl = none → sp [.ref a, .ref sl, v] (upd H3 sl (SlO sl i j)) (fun _ H' => Q σ H') E0
theorem pg_sliceS (M : Meth X.K C "__setitem__" f) (hn : PySem.W.noSeq X.K C = true) (G : FnOk X.prog X.w X.K X.mg X.base (L2.CX X.prog X.w) k f fd ps sp) (hr : Room k X.A) (hb : Binds X.K fd ps []) (he : PE X e te) (hl : PE X lo tl) (hu : PE X hi th) : PG X (.Subscript e (.Slice (some lo) (some hi) none p2) pos) (gSlS C sp te tl th) := by
  refine ⟨fun pins s σ H v w Q I r h => ?_⟩
  show wpAny _ _ (do
    let ov ← holding [w] (eval e X.env)
    let iv ← holding [w, ov] (eval (.Slice (some lo) (some hi) none p2) X.env)
    standAt pos
    holding [w, ov, iv] (setItem ov iv w)
    release [iv, w, ov] []) _ _ _
  refine wpAny_bind (wpAny_holding (thn (he.run pins s σ H _ I h) fun ov s1 ⟨x, H1, I1, r1, q1⟩ => ?_))
  refine wpAny_bind (wpAny_holding (wpAny_Slice ?_))
  rw [evalPart_some, evalPart_some, evalPart_none]
  refine thn (hl.run pins s1 σ H1 _ I1 q1) fun vl s2 ⟨l, H2, I2, r2, i, el, q2⟩ => thn (hu.run pins s2 σ H2 _ I2 q2) fun vu s3 ⟨u, H3, I3, r3, j, eu, a, dx, fs, ex, ea, q3⟩ => ?_
  subst el eu ex
  obtain ⟨t2, rfl⟩ := r2
  obtain ⟨t3, rfl⟩ := r3
  obtain rfl : ov = Value.ref a := r1
  refine wpAny_pure ?_
  have nsl : H3 s3.heap.objs.size = none := I3.hok.fresh (Nat.le_refl _)
  have I4 := I3.laid (t' := s3.toks) (o := SlO s3.heap.objs.size i j) (fun b ob q => Heap.get?_push_of_some { cls := .type "slice", data := .fields #[.int i t2, .int j t3, .none] } q) (Nat.le_refl _) (slO_ok (Heap.IsSliceOf.new ..))
  have ea4 : upd H3 s3.heap.objs.size (SlO s3.heap.objs.size i j) a = some (.ins C dx fs) := by rw [upd_ne (ne_of_none ea nsl)]; exact ea
  obtain ⟨od, J⟩ := inst_at I4 ea4
  obtain ⟨m0, hF⟩ := I4.fr
  refine wpAny_bind (wpAny_standAt (wpAny_bind (wpAny_holding (PySem.W.ksp_setItem hF I4.ok.mod.kin J hn M.at_ M.fn (wpAny_mono (run_below (vs := [.ref a, .ref s3.heap.objs.size, v]) G hr rfl hb I4 (.cons rfl (.cons rfl (.cons r .nil))) (q3 _ nsl)) (fun r s' hv => ?_) fun _ _ z => z)))))
  obtain ⟨z, H', J', rz, q⟩ := hv
  exact wpAny_release ⟨σ, H', J', q⟩
/-- x[i] by the own __getitem__, that may raise -/
def tGetO (C : Addr) (sp : Sp) (E : EX) (te ti : TE) : TE := fun σ H Q => te σ H fun x H1 => ti σ H1 fun i H2 => ∃ (a dx : Addr) (fs : List (Str × V)), x = .ref a ∧ H2 a = some (.ins C dx fs) ∧ sp [.ref a, i] H2 Q (E σ)
theorem pe_getO {CX : CXT} {E : EX} {b : Expr} {ti : TE} (M : Meth X.K C "__getitem__" f) (hf : PySem.W.fnIn X.K f = true) (G : FnOk X.prog X.w X.K X.mg X.base CX k f fd ps sp) (hr : Room (k + 1) X.A) (hb : Binds X.K fd ps []) (hx : ∀ σ, PassesAt CX X σ (E σ)) (he : PE X e te) (hi : PE X b ti)
    (hsl : ∀ x i, subscripted b true (.ref x) i = runValue (.builtin "lifetime.subscript" ⟨[.ref x, i], []⟩) := by intro _ _; rfl) : PE X (.Subscript e b pos) (tGetO C sp E te ti) := by
  refine ⟨fun pins s σ H Q I h => ?_⟩
  refine Subscript_ (thn (he.run pins s σ H _ I h) fun v s1 ⟨x, H1, I1, r1, q1⟩ => thn (hi.run pins s1 σ H1 _ I1 q1) fun u s2 ⟨y, H2, I2, r2, a, dx, fs, ex, ea, q2⟩ => ?_)
  subst ex
  obtain rfl : v = Value.ref a := r1
  obtain ⟨od, J⟩ := inst_at I2 ea
  obtain ⟨m0, hF⟩ := I2.fr
  exact PySem.W.sub_K hF I2.ok.mod.kin J M.at_ hf M.fn (wpAny_call (codeAny_mono (run_X (vs := [.ref a, y]) G hr.in1 rfl hb .nil (hx σ) I2 (.cons rfl (.cons r2 .nil)) (by rw [List.append_nil]; exact q2)) fun _ _ hq => ended hq)) (hsl _ _)
/-- x[i] = v by the own __setitem__, that may raise -/
def gSetX (C : Addr) (sp : Sp) (E : EX) (te ti : TE) : TG := fun v σ H Q => te σ H fun x H1 => ti σ H1 fun i H2 => ∃ (a dx : Addr) (fs : List (Str × V)), x = .ref a ∧ H2 a = some (.ins C dx fs) ∧ sp [.ref a, i, v] H2 (fun _ H' => Q σ H') (E σ)
theorem pg_setX {CX : CXT} {E : EX} {b : Expr} {ti : TE} (M : Meth X.K C "__setitem__" f) (hn : PySem.W.noSeq X.K C = true) (G : FnOk X.prog X.w X.K X.mg X.base CX k f fd ps sp) (hr : Room k X.A) (hb : Binds X.K fd ps []) (hx : ∀ σ, PassesAt CX X σ (E σ)) (he : PE X e te) (hi : PE X b ti)
    (ha : ∀ v, assign (.Subscript e b pos) X.env v = (do
      let ov ← holding [v] (eval e X.env)
      let iv ← holding [v, ov] (eval b X.env)
      standAt pos
      holding [v, ov, iv] (setItem ov iv v)
      release [v, ov, iv] []) := by intro _; rfl) : PG X (.Subscript e b pos) (gSetX C sp E te ti) := by
  refine ⟨fun pins s σ H v w Q I r h => ?_⟩
  rw [ha]
  refine wpAny_bind (wpAny_holding (thn (he.run pins s σ H _ I h) fun ov s1 ⟨x, H1, I1, r1, q1⟩ => ?_))
  refine wpAny_bind (wpAny_holding (thn (hi.run pins s1 σ H1 _ I1 q1) fun iv s2 ⟨y, H2, I2, r2, a, dx, fs, ex, ea, q2⟩ => ?_))
  subst ex
  obtain rfl : ov = Value.ref a := r1
  obtain ⟨od, J⟩ := inst_at I2 ea
  obtain ⟨m0, hF⟩ := I2.fr
  refine wpAny_bind (wpAny_standAt (wpAny_bind (wpAny_holding (PySem.W.ksp_setItem hF I2.ok.mod.kin J hn M.at_ M.fn (wpAny_mono (run_XC (vs := [.ref a, y, v]) G hr hb .nil (hx σ) I2 (.cons rfl (.cons r2 (.cons r .nil))) (by rw [List.append_nil]; exact q2)) (fun r s' hv => ?_) fun _ _ z => z)))))
  obtain ⟨z, H', J', rz, q⟩ := hv
  exact wpAny_release ⟨σ, H', J', q⟩
end
end Rz
namespace Rz
open PySem PySem.Spec PyProof.Rows L2
theorem PAt.nth {H : Hp} : ∀ {ts : List Addr} {ps : List Pr} {i : Nat} {p : Pr}, PAt H ts ps → ps[i]? = some p → ∃ t, ts[i]? = some t ∧ H t = some (.tup (prV p))
  | _, _, i, p, .nil, h => by cases h
  | _, _, 0, p, .cons e r, h => by
    have z := Option.some.inj h
    subst z
    exact ⟨_, rfl, e⟩
  | _, _, i + 1, p, .cons e r, h => PAt.nth (i := i) r (by simpa using h)
theorem ref_nth {ts : List Addr} {i : Nat} {t : Addr} (h : ts[i]? = some t) : (ts.map V.ref)[i]? = some (.ref t) := by
  rw [List.getElem?_map, h]
  rfl
theorem PAt.take {H : Hp} : ∀ {ts : List Addr} {ps : List Pr} (n : Nat), PAt H ts ps → PAt H (ts.take n) (ps.take n)
  | _, _, 0, _ => .nil
  | _, _, _ + 1, .nil => .nil
  | _, _, n + 1, .cons e r => .cons e (PAt.take n r)
theorem PAt.drop {H : Hp} : ∀ {ts : List Addr} {ps : List Pr} (n : Nat), PAt H ts ps → PAt H (ts.drop n) (ps.drop n)
  | _, _, 0, h => h
  | _, _, _ + 1, .nil => .nil
  | _, _, n + 1, .cons _ r => PAt.drop n r
theorem cutV_nat {xs : List V} {i j : Nat} (h : i ≤ j) (hj : j ≤ xs.length) : cutV xs (some (i : Int)) (some (j : Int)) = (xs.drop i).take (j - i) := by
  have e1 : HT.sIx xs.length 0 (some (i : Int)) = i := by
    unfold HT.sIx
    simp only
    rw [if_neg (by omega), Int.toNat_natCast]
    omega
  have e2 : HT.sIx xs.length xs.length (some (j : Int)) = j := by
    unfold HT.sIx
    simp only
    rw [if_neg (by omega), Int.toNat_natCast]
    omega
  unfold cutV
  rw [e1, e2]
end Rz

namespace Rz
open PySem PySem.Spec PyProof.Rows L2
/-! ### lists of pairs: joined, cut, copied, written out; the heap is let go of -/
theorem cutV_to {xs : List V} {j : Nat} (hj : j ≤ xs.length) : cutV xs none (some (j : Int)) = xs.take j := by
  have e1 : HT.sIx xs.length 0 none = 0 := rfl
  have e2 : HT.sIx xs.length xs.length (some (j : Int)) = j := by
    unfold HT.sIx
    simp only
    rw [if_neg (by omega), Int.toNat_natCast]
    omega
  unfold cutV
  rw [e1, e2, List.drop_zero, Nat.sub_zero]
theorem cutV_from {xs : List V} {i : Nat} (hi : i ≤ xs.length) : cutV xs (some (i : Int)) none = xs.drop i := by
  have e1 : HT.sIx xs.length 0 (some (i : Int)) = i := by
    unfold HT.sIx
    simp only
    rw [if_neg (by omega), Int.toNat_natCast]
    omega
  have e2 : HT.sIx xs.length xs.length none = xs.length := rfl
  unfold cutV
  rw [e1, e2, List.take_of_length_le (by rw [List.length_drop]; exact Nat.le_refl _)]
/-- len(xs), list(xs) of a list, by names that are not opened -/
@[irreducible] def rLenS (K : PySem.W.Frag) : List V → Hp → VK → Prop := fun xs H Q => ∃ p ys, xs = [.ref p] ∧ SqL K H p ys ∧ Q (.int ys.length) H
theorem call_lenS {X : Cx} : CallR X (.builtin "len") (rLenS X.K) := by
  intro pins s σ H xs us Q I r h
  unfold rLenS at h
  obtain ⟨p, ys, e, h1, q⟩ := h
  exact call_len_seq pins s σ H xs us Q I r ⟨p, ys, e, .inl h1, q⟩
@[irreducible] def rListS (K : PySem.W.Frag) : List V → Hp → VK → Prop := fun xs H Q => ∃ p ys, xs = [.ref p] ∧ SqL K H p ys ∧ ∀ l, H l = none → Q (.ref l) (upd H l (.lst ys))
theorem call_listS {X : Cx} : CallR X (.type "list") (rListS X.K) := by
  intro pins s σ H xs us Q I r h
  unfold rListS at h
  obtain ⟨p, ys, e, h1, q⟩ := h
  exact call_list_of pins s σ H xs us Q I r ⟨p, ys, e, .inl h1, q⟩
section
variable {K : PySem.W.Frag} {H : Hp} {l m : Addr} {us vs : List Pr} {Q : VK}
theorem cat_go (hu : LAt H l us) (hv : LAt H m vs) (hz : us.length + vs.length ≤ 1000000) (k : ∀ (p : Addr) (H' : Hp), H p = none → Same H H' → LAt H' p (us ++ vs) → Q (.ref p) H') : rCat (.ref l) (.ref m) H Q := by
  obtain ⟨ts, e1, P1⟩ := hu
  obtain ⟨ws, e2, P2⟩ := hv
  refine ⟨l, m, _, _, rfl, rfl, e1, e2, by rw [List.length_map, List.length_map, P1.length, P2.length, sizeLine_eq]; omega, fun p hp => ?_⟩
  have S := Rz.Same.new (o := .lst (ts.map V.ref ++ ws.map V.ref)) (Same.refl H) hp
  exact k p _ hp S ⟨ts ++ ws, by rw [upd_same, List.map_append], (P1.append P2).keep (Tups.of S)⟩
theorem to_go {j : Nat} (hu : LAt H l us) (hj : j ≤ us.length) (k : ∀ (p : Addr) (H' : Hp), H p = none → Same H H' → LAt H' p (us.take j) → Q (.ref p) H') : rSlL K (.ref l) none (some (j : Int)) H Q := by
  obtain ⟨ts, e1, P1⟩ := hu
  refine ⟨l, _, rfl, SqL.of e1, fun p hp => ?_⟩
  have S := Rz.Same.new (o := .lst (cutV (ts.map V.ref) none (some (j : Int)))) (Same.refl H) hp
  exact k p _ hp S ⟨ts.take j, by rw [upd_same, cutV_to (by rw [List.length_map, P1.length]; exact hj), List.map_take], (P1.take j).keep (Tups.of S)⟩
theorem from_go {i : Nat} {σ : L2.St} (hu : LAt H l us) (hi : i ≤ us.length) (k : ∀ (p : Addr) (H' : Hp), H p = none → Same H H' → LAt H' p (us.drop i) → Q (.ref p) H') : tNoPart σ H fun u H3 => rSlL K (.ref l) (some (i : Int)) u H3 Q := by
  obtain ⟨ts, e1, P1⟩ := hu
  refine ⟨l, _, rfl, SqL.of e1, fun p hp => ?_⟩
  have S := Rz.Same.new (o := .lst (cutV (ts.map V.ref) (some (i : Int)) none)) (Same.refl H) hp
  exact k p _ hp S ⟨ts.drop i, by rw [upd_same, cutV_from (by rw [List.length_map, P1.length]; exact hi), List.map_drop], (P1.drop i).keep (Tups.of S)⟩
theorem mid_go {i j : Nat} (hu : LAt H l us) (hij : i ≤ j) (hj : j ≤ us.length) (k : ∀ (p : Addr) (H' : Hp), H p = none → Same H H' → LAt H' p ((us.drop i).take (j - i)) → Q (.ref p) H') : rSlL K (.ref l) (some (i : Int)) (some (j : Int)) H Q := by
  obtain ⟨ts, e1, P1⟩ := hu
  refine ⟨l, _, rfl, SqL.of e1, fun p hp => ?_⟩
  have S := Rz.Same.new (o := .lst (cutV (ts.map V.ref) (some (i : Int)) (some (j : Int)))) (Same.refl H) hp
  exact k p _ hp S ⟨(ts.drop i).take (j - i), by rw [upd_same, cutV_nat hij (by rw [List.length_map, P1.length]; exact hj), List.map_take, List.map_drop], ((P1.drop i).take (j - i)).keep (Tups.of S)⟩
/-- list(xs) -/
theorem copy_go (hu : LAt H l us) (k : ∀ (p : Addr) (H' : Hp), H p = none → Same H H' → LAt H' p us → Q (.ref p) H') : rListS K [V.ref l] H Q := by
  obtain ⟨ts, e1, P1⟩ := hu
  unfold rListS
  refine ⟨l, _, rfl, SqL.of e1, fun p hp => ?_⟩
  have S := Rz.Same.new (o := .lst (ts.map V.ref)) (Same.refl H) hp
  exact k p _ hp S ⟨ts, upd_same, P1.keep (Tups.of S)⟩
/-- len(xs) of such a list -/
theorem len_go (hu : LAt H l us) (k : Q (.int (us.length : Nat)) H) : rLenS K [V.ref l] H Q := by
  obtain ⟨ts, e1, P1⟩ := hu
  unfold rLenS
  exact ⟨l, _, rfl, SqL.of e1, by rw [List.length_map, P1.length]; exact k⟩
end
theorem good_take {ps : List Pr} (h : GoodR ps) (n : Nat) : GoodR (ps.take n) := fun p hp => h p (List.mem_of_mem_take hp)
theorem good_drop {ps : List Pr} (h : GoodR ps) (n : Nat) : GoodR (ps.drop n) := fun p hp => h p (List.mem_of_mem_drop hp)
theorem good_cat {ps qs : List Pr} (h : GoodR ps) (g : GoodR qs) : GoodR (ps ++ qs) := fun p hp => (List.mem_append.mp hp).elim (h p) (g p)
theorem good_put {ps : List Pr} {p : Pr} (h : GoodR ps) (g : oddC p.1 = false ∧ 0 ≤ p.2 ∧ p.2 ≤ 9) (i : Nat) : GoodR (ps.set i p) := fun q hq => (List.mem_or_eq_of_mem_set hq).elim (h q) fun e => by rw [e]; exact g
end Rz
namespace Rz
open PySem PySem.Spec PyProof.Rows L2
/-! ### C(..), its wish by a name that is not opened -/
@[irreducible] def MkR (C : Addr) (sp : Sp) (dvs : List V) (E : XK) (vs : List V) (H : Hp) (Q : VK) : Prop := ∀ x dx, H x = none → H dx = none → dx ≠ x → sp (.ref x :: (vs ++ dvs)) (upd (upd H dx (.own x)) x (.ins C dx [])) (fun v H2 => v = .non ∧ Q (.ref x) H2) E
theorem mkR_eq {C : Addr} {sp : Sp} {dvs : List V} {E : XK} {vs : List V} {H : Hp} {Q : VK} : MkR C sp dvs E vs H Q = ∀ x dx, H x = none → H dx = none → dx ≠ x → sp (.ref x :: (vs ++ dvs)) (upd (upd H dx (.own x)) x (.ins C dx [])) (fun v H2 => v = .non ∧ Q (.ref x) H2) E := by
  unfold MkR
  rfl
def tMkR (C : Addr) (sp : Sp) (dvs : List V) (E : EX) (t : TA) : TE := fun σ H Q => t σ H fun vs H1 => MkR C sp dvs (E σ) vs H1 Q
theorem tMkR_eq {C : Addr} {sp : Sp} {dvs : List V} {E : EX} {t : TA} : tMkR C sp dvs E t = tMk C sp dvs E t := by
  funext σ H Q
  unfold tMkR tMk
  simp only [mkR_eq]
section
variable {X : Cx} {CX : CXT} {k : Nat} {f C : Addr} {fd : FuncData} {ps : List Str} {sp : Sp} {dvs : List V} {ds : List Value} {E : EX} {x : Str} {p pos : Pos} {e : Expr} {es : List Expr} {t : TA}
theorem pe_mkR (M : Mk X.K C f) (F : FnOk X.prog X.w X.K X.mg X.base CX k f fd ps sp) (hr : Room (k + 1) X.A) (hg : Gl X x) (hm : X.mg x = some (.ref C)) (hb : Binds X.K fd ps ds) (hd : Vals dvs ds) (hx : ∀ σ, PassesAt CX X σ (E σ))
    (ha : PA X (e :: es) t) (hdb : (x == ("__debug__" : Str)) = false := by decide) (he : starEach (e :: es) X.env = (false, eval e X.env) :: starEach es X.env := by rfl) (hpl : (backTo pos (starEach es X.env)).any (·.1) = false := by rfl) :
    PE X (.Call (.Name x p) (e :: es) [] pos) (tMkR C sp dvs E t) := by
  rw [tMkR_eq]
  exact pe_mk M F hr hg hm hb hd hx ha hdb he hpl
theorem pe_mkR0 (M : Mk X.K C f) (F : FnOk X.prog X.w X.K X.mg X.base CX k f fd ps sp) (hr : Room (k + 1) X.A) (hg : Gl X x) (hm : X.mg x = some (.ref C)) (hb : Binds X.K fd ps ds) (hd : Vals dvs ds) (hx : ∀ σ, PassesAt CX X σ (E σ))
    (hdb : (x == ("__debug__" : Str)) = false := by decide) : PE X (.Call (.Name x p) [] [] pos) (tMkR C sp dvs E tNil) := by
  rw [tMkR_eq]
  exact pe_mk0 M F hr hg hm hb hd hx hdb
end
end Rz
namespace Rz
open PySem PySem.Spec PyProof.Rows L2
theorem drT {H H' : Hp} {d : Addr} (D : Dr H d) (B : But [d] H H') : Tups H H' := Tups.but B fun b hb xs e => by
  have e2 : b = d := by simpa using hb
  obtain ⟨ns, q, _⟩ := D
  rw [e2, q] at e
  cases e
theorem evC {c : Nat} (h : c ∈ abc.cps.toList) : oddC c = false := by
  unfold oddC
  rw [decide_eq_true h]
  rfl
end Rz

namespace Rz
open PySem PySem.Spec PyProof.Rows L2
/-! ### calls of instances of an own class with __call__ -/
section
variable {X : Cx} {CX : CXT} {k n : Nat} {g C : Addr} {fd : FuncData} {ps ks : List Str} {sp : Sp} {dvs : List V} {ds : List Value} {E : EX} {pos : Pos} {e fe : Expr} {es : List Expr} {kws : List Keyword} {tf : TE} {t tk : TA} {gg : List Value → List Value → List Value} {gV : List V → List V → List V}
def tInst (C : Addr) (sp : Sp) (dvs : List V) (E : EX) (tf : TE) (t : TA) : TE := fun σ H Q => tf σ H fun y H1 => ∃ a, y = V.ref a ∧ t σ H1 fun vs H2 => (∃ dx fs, H2 a = some (.ins C dx fs)) ∧ sp (V.ref a :: (vs ++ dvs)) H2 Q (E σ)
theorem pe_inst (c : StX.CallO X.K C g) (F : FnOk X.prog X.w X.K X.mg X.base CX k g fd ps sp) (hr : Room k X.A) (hb : Binds X.K fd ps ds) (hd : Vals dvs ds) (hx : ∀ σ, PassesAt CX X σ (E σ)) (hf : PE X fe tf) (ha : PA X (e :: es) t)
    (ht : eval (.Call fe (e :: es) [] pos) X.env = (do callWith pos (← eval fe X.env) [] (backTo pos (starEach (e :: es) X.env)) (backToKw pos (keywordEach [] X.env))) := by rfl)
    (he : starEach (e :: es) X.env = (false, eval e X.env) :: starEach es X.env := by rfl) (hpl : (backTo pos (starEach es X.env)).any (·.1) = false := by rfl) : PE X (.Call fe (e :: es) [] pos) (tInst C sp dvs E tf t) := by
  refine ⟨fun pins s σ H Q I h => ?_⟩
  refine Call_ (thn (hf.run pins s σ H _ I h) fun u s1 ⟨y, H1, I1, ry, a, ey, q⟩ => ?_) ht
  subst ey
  obtain rfl : u = Value.ref a := ry
  refine StX.callO_with (thn (ha.run pos pins s1 σ H1 _ I1 q) fun us s2 ⟨vs, H2, I2, r, ⟨dx, fs, hi⟩, q2⟩ => ?_) he hpl
  obtain ⟨ox, od, J, hpd⟩ := StX.insC_at I2 (.inr ⟨dx, fs, hi⟩)
  exact ⟨⟨C, ox, od, J, hpd⟩, wpAny_call (PySem.W.kco_code I2.kIn J hpd c.at_ c.fn c.fi (codeAny_mono (run_X (us := .ref a :: us) (vs := .ref a :: vs) F hr rfl hb hd (hx σ) I2 (.cons rfl r) q2) fun _ _ hq => ended hq))⟩
theorem callO_kw {M : Model} {A : Around} {E : Value → Shared → Prop} {s : Shared} {a : Addr} {Q : Value → Shared → Prop} {args : List (Bool × Sem Value)} {kw : List (Option Str × Sem Value)} (hplain : (args.any (·.1) || kw.any (·.1.isNone)) = false)
    (h : wpAny M A (evalArgs (.ref a) true args kw) (fun z s₁ => (∃ C ox od, PySem.W.InstAt s₁.heap a ox C od ∧ ox.data = .plain) ∧ wpAny M A (call (.ref a) ([] ++ z.pos) z.kw) Q E s₁) E s) : wpAny M A (callWith pos (.ref a) [] args kw) Q E s := by
  unfold callWith
  refine wpAny_bind (wpAny_holding (wpAny_mono h (fun z s₁ h₁ => wpAny_bind (wpAny_standAt ?_)) fun _ _ y => y))
  obtain ⟨⟨C, ox, od, J, hpd⟩, h₂⟩ := h₁
  have L := PySem.W.kco_keeper (M := M) J hpd
  simp only [hplain]
  refine wpAny_bind (L.here ?_)
  have fin : ∀ {t : Sem Value}, wpAny M A t Q E s₁ → wpAny M A (t >>= fun r => holding [r] point >>= fun _ => pure r) Q E s₁ :=
    fun hq => wpAny_bind (wpAny_mono hq (fun r s₂ hr => wpAny_bind (wpAny_holding (wpAny_point (wpAny_pure hr)))) fun _ _ y => y)
  exact fin (wpAny_operateT h₂)
/-- f(e, .., k = v) of an instance -/
def tInstK (C : Addr) (n m : Nat) (sp : Sp) (gV : List V → List V → List V) (E : EX) (tf : TE) (t tk : TA) : TE := fun σ H Q => tf σ H fun y H1 => ∃ a, y = V.ref a ∧ t σ H1 fun vs H2 => tk σ H2 fun zs H3 => (∃ dx fs, H3 a = some (.ins C dx fs)) ∧ vs.length + 1 = n ∧ zs.length = m ∧ sp (gV (V.ref a :: vs) zs) H3 Q (E σ)
theorem pe_instK (c : StX.CallO X.K C g) (F : FnOk X.prog X.w X.K X.mg X.base CX k g fd ps sp) (hr : Room k X.A) (hb : KBn X.K fd ps n ks gg gV) (hx : ∀ σ, PassesAt CX X σ (E σ)) (hf : PE X fe tf) (ha : PA X (e :: es) t) (hkw : PK X kws tk)
    (ht : eval (.Call fe (e :: es) kws pos) X.env = (do callWith pos (← eval fe X.env) [] (backTo pos (starEach (e :: es) X.env)) (backToKw pos (keywordEach kws X.env))) := by rfl)
    (hall : (backToKw pos (keywordEach kws X.env)).all (·.1.isSome) = true := by rfl) (hks : (backToKw pos (keywordEach kws X.env)).filterMap (·.1) = ks := by rfl)
    (he : starEach (e :: es) X.env = (false, eval e X.env) :: starEach es X.env := by rfl) (hpl : ((backTo pos (starEach (e :: es) X.env)).any (·.1) || (backToKw pos (keywordEach kws X.env)).any (·.1.isNone)) = false := by rfl) :
    PE X (.Call fe (e :: es) kws pos) (tInstK C n ks.length sp gV E tf t tk) := by
  refine ⟨fun pins s σ H Q I h => ?_⟩
  rw [ht]
  refine wpAny_bind (thn (hf.run pins s σ H _ I h) fun u s1 ⟨y, H1, I1, ry, a, ey, q⟩ => ?_)
  subst ey
  obtain rfl : u = Value.ref a := ry
  refine callO_kw hpl (evalArgs_kw2 hall (thn (ha.run pos pins s1 σ H1 _ I1 q) fun us s2 ⟨vs, H2, I2, r, q2⟩ => thn (hkw.run pos pins s2 σ H2 _ I2 q2) fun ws s3 ⟨zs, H3, I3, rz, ⟨dx, fs, hi⟩, l1, l2, q3⟩ => ?_) he)
  obtain ⟨ox, od, J, hpd⟩ := StX.insC_at I3 (.inr ⟨dx, fs, hi⟩)
  refine ⟨⟨C, ox, od, J, hpd⟩, wpAny_call (PySem.W.kco_code I3.kIn J hpd c.at_ c.fn c.fi ?_)⟩
  rw [hks]
  have ra : Vals (V.ref a :: vs) (Value.ref a :: us) := .cons rfl r
  refine codeAny_mono (F.run X.A X.stack s3 H3 ⟨.ref a :: us, ks.zip ws⟩ (gg (.ref a :: us) ws) (gV (.ref a :: vs) zs) Q (E σ) hr I3.env0 (hb.to s3 _ ws I3.kIn (by rw [List.length_cons, ← r.length]; exact l1) (rz.length.symm.trans l2)) (hb.rel ra rz) q3) fun q s' hq => ?_
  match q, hq with
  | .error er, hq => exact hx σ pins H3 s3 er s' I3 hq
  | .ok (.ret u), hq => exact I3.after hq
  | .ok .next, hq => exact False.elim hq
  | .ok .brk, hq => exact False.elim hq
  | .ok .cont, hq => exact False.elim hq
end
/-- how keywords bind to a def with defaults and no keyword-only parameter -/
theorem kbinds1 {K : PySem.W.Frag} {x qual : Str} {params : Arguments} {body : List Stmt} {scope : Scope} {dvs : List V} {kws : List (Str × V)} {f : Addr} {fd : FuncData} {ps : List Str} (F : FunD K x qual params body scope dvs kws f fd) (n : Nat) (ks : List Str) (g : {α : Type} → List α → List α → List α → List α) (hd : dvs ≠ [])
    (hrel : ∀ {vs dv zs : List V} {us its ws : List Value}, Vals vs us → Vals dv its → Vals zs ws → Vals (g vs dv zs) (g us its ws))
    (h : ∀ (T : Addr) (kV doc pm : Value) (an : Option Addr) (cdv ct : Value) (us its ws : List Value), us.length = n → its.length = dvs.length → ws.length = ks.length →
      ∃ k, bindArgs (PySem.W.fnOf x qual params body scope (.ref T) kV doc pm an cdv ct) ⟨us, ks.zip ws⟩ = seqItems? (.ref T) >>= k ∧ k (some its.toArray) = pure (ps.zip (g us its ws))) : ∃ its : List Value, KBn K fd ps n ks (fun us ws => g us its ws) (fun vs zs => g vs dvs zs) := by
  obtain ⟨oc, od, dV, kV, doc, pm, an, cdv, ct, osl, rfl, lk, hcd, hD, hK⟩ := F.ex
  rcases hD with ⟨e, _⟩ | ⟨_, T, o, its, m, rfl, lT, oT, rT⟩
  · exact absurd e hd
  · refine ⟨its, ⟨fun s us ws X l1 l2 => ?_, fun r1 r2 => hrel r1 rT r2⟩⟩
    obtain ⟨k, e1, e2⟩ := h T kV doc pm an cdv ct us its ws l1 rT.length.symm l2
    exact PySem.W.binds_K X rfl lT oT e1 e2
end Rz
namespace Rz
open PySem PySem.Spec PyProof.Rows L2
theorem fn_inD {x qual : Str} {params : Arguments} {body : List Stmt} {scope : Scope} {dvs : List V} {kws : List (Str × V)} {g : Addr} {K : PySem.W.Frag} {gd : FuncData} (F : FunD K x qual params body scope dvs kws g gd) : PySem.W.fnIn K g = true := by
  obtain ⟨_, _, _, _, _, _, _, _, _, _, _, lk, _⟩ := F.ex
  unfold PySem.W.fnIn
  rw [lk]
end Rz

namespace Rz
open PySem PySem.Spec PyProof.Rows L2
/-! ### a step of a rule, as lists -/
/-- l stands in cs from i on -/
def fitAt (cs l : List Nat) (i : Int) : Bool := decide (0 ≤ i) && ((cs.drop i.toNat).take l.length == l)
theorem fit_iff {cs l : List Nat} {i : Int} : fitAt cs l i = true ↔ 0 ≤ i ∧ (cs.drop i.toNat).take l.length = l := by
  unfold fitAt
  rw [Bool.and_eq_true, decide_eq_true_iff, beq_iff_eq]
theorem fit_len {cs l : List Nat} {i : Int} (h : fitAt cs l i = true) (hl : l ≠ []) : i.toNat + l.length ≤ cs.length := by
  have e := congrArg List.length (fit_iff.mp h).2
  rw [List.length_take, List.length_drop] at e
  have : 0 < l.length := List.length_pos_iff.mpr hl
  omega
theorem starts_fit {x l : Str} {i : Int} (h0 : 0 ≤ i) (hl : l.cps.toList ≠ []) : Txt.startswith3 x l i = fitAt x.cps.toList l.cps.toList i := by
  unfold Txt.startswith3
  have e1 : PySem.fromIndex x.length i = i.toNat := by
    unfold PySem.fromIndex
    rw [if_neg (by omega)]
    omega
  rw [e1, PySem.StrLaws.subAt_eq]
  unfold fitAt
  rw [decide_eq_true h0, Bool.true_and]
  show (decide (i.toNat + l.length ≤ x.length) && ((x.cps.toList.drop i.toNat).take l.length == l.cps.toList)) = ((x.cps.toList.drop i.toNat).take l.length == l.cps.toList)
  cases e : ((x.cps.toList.drop i.toNat).take l.length == l.cps.toList) with
  | false => rw [Bool.and_false]
  | true =>
    have := fit_len (cs := x.cps.toList) (l := l.cps.toList) (i := i) (fit_iff.mpr ⟨h0, beq_iff_eq.mp e⟩) hl
    rw [decide_eq_true (show i.toNat + l.length ≤ x.length from this), Bool.true_and]
/-- the least number of a list -/
def leastL : List Int → Int
  | [] => 0
  | n :: r => r.foldl min n
theorem foldl_min : ∀ (r : List Int) (n : Int), (r.foldl min n = n ∨ r.foldl min n ∈ r) ∧ r.foldl min n ≤ n ∧ ∀ y ∈ r, r.foldl min n ≤ y
  | [], n => ⟨.inl rfl, Int.le_refl _, fun y h => by cases h⟩
  | x :: r, n => by
    obtain ⟨a, b, c⟩ := foldl_min r (min n x)
    refine ⟨?_, Int.le_trans b (Int.min_le_left ..), fun y hy => ?_⟩
    · rcases a with a | a
      · show (r.foldl min (min n x) = n) ∨ (r.foldl min (min n x) ∈ x :: r)
        rw [a]
        by_cases h : n ≤ x
        · exact .inl (Int.min_eq_left h)
        · right
          rw [Int.min_eq_right (by omega)]
          exact List.mem_cons_self
      · exact .inr (List.mem_cons_of_mem _ a)
    · rcases List.mem_cons.mp hy with rfl | hy
      · exact Int.le_trans b (Int.min_le_right ..)
      · exact c y hy
theorem leastL_eq {ns : List Int} {m : Int} (h : m ∈ ns) (hall : ∀ y ∈ ns, m ≤ y) : m = leastL ns := by
  cases ns with
  | nil => cases h
  | cons n r =>
    obtain ⟨a, b, c⟩ := foldl_min r n
    show m = r.foldl min n
    have h1 : m ≤ r.foldl min n := by
      rcases a with a | a
      · rw [a]
        exact hall n List.mem_cons_self
      · exact hall _ (List.mem_cons_of_mem _ a)
    have h2 : r.foldl min n ≤ m := by
      rcases List.mem_cons.mp h with rfl | h
      · exact b
      · exact c m h
    omega
theorem leastL_mem {ns : List Int} (h : ns ≠ []) : leastL ns ∈ ns := by
  cases ns with
  | nil => exact absurd rfl h
  | cons n r =>
    obtain ⟨a, _, _⟩ := foldl_min r n
    show r.foldl min n ∈ n :: r
    rcases a with a | a
    · rw [a]
      exact List.mem_cons_self
    · exact List.mem_cons_of_mem _ a
/-- the least height of the n pairs from i on -/
def leastAt (ps : List Pr) (i n : Nat) : Int := leastL (hts ((ps.drop i).take n))
theorem leastAt_good {ps : List Pr} {i n : Nat} (g : GoodR ps) (h : i + n ≤ ps.length) (hn : 0 < n) : 0 ≤ leastAt ps i n ∧ leastAt ps i n ≤ 9 := by
  have ne : hts ((ps.drop i).take n) ≠ [] := fun z => by
    have := congrArg List.length z
    rw [hts_len, List.length_take, List.length_drop, List.length_nil] at this
    omega
  have m := leastL_mem ne
  unfold hts at m
  obtain ⟨p, hp, e⟩ := List.mem_map.mp m
  have := (g p (List.mem_of_mem_drop (List.mem_of_mem_take hp))).2
  unfold leastAt hts
  rw [← e]
  exact this
/-- the pairs that the step writes -/
def fresh (r : List Nat) (h : Int) : List Pr := r.map fun c => (c, h)
theorem fresh_len (r : List Nat) (h : Int) : (fresh r h).length = r.length := List.length_map ..
theorem fresh_good {r : List Nat} {h : Int} (hr : ∀ c ∈ r, oddC c = false) (h0 : r ≠ [] → 0 ≤ h ∧ h ≤ 9) : GoodR (fresh r h) := fun p hp => by
  unfold fresh at hp
  obtain ⟨c, hc, rfl⟩ := List.mem_map.mp hp
  exact ⟨hr c hc, h0 (List.ne_nil_of_mem hc)⟩
theorem zip_rep (r : List Nat) (h : Int) : r.zip (List.replicate r.length h) = fresh r h := by
  unfold fresh
  induction r with
  | nil => rfl
  | cons c r ih =>
    rw [List.length_cons, List.replicate_succ, List.zip_cons_cons, ih]
    rfl
/-- the row after the step -/
def stepTo (ps : List Pr) (l r : List Nat) (i : Nat) : List Pr := ps.take i ++ fresh r (1 + leastAt ps i l.length) ++ ps.drop (i + l.length)
theorem fo_even {z : Str} (h : fo z = none) : ∀ c ∈ z.cps.toList, oddC c = false := fun c hc => by
  have := List.findIdx?_eq_none_iff.mp h c hc
  simpa using this
theorem rr_fresh {z : Str} {h : Int} (hz : fo z = none) (h0 : z.cps.toList ≠ [] → 0 ≤ h ∧ h ≤ 9) : rr z (List.replicate z.length h) = .row := by
  unfold rr
  rw [hz]
  dsimp only
  rw [if_neg (by rw [List.length_replicate]; simp)]
  have e : (List.replicate z.length h).find? badH = none := by
    rw [List.find?_eq_none]
    intro n hn
    obtain ⟨hne, rfl⟩ := List.mem_replicate.mp hn
    have h1 := h0 (fun e => hne (by
      have : z.cps.toList.length = 0 := by rw [e]; rfl
      rw [len_list] at this
      exact this))
    unfold badH
    simp
    omega
  rw [e]
theorem nodup_le : ∀ {xs z : List Nat}, xs.Nodup → (∀ x ∈ xs, x ∈ z) → xs.length ≤ z.length
  | [], z, _, _ => Nat.zero_le _
  | x :: xs, z, nd, h => by
    have hx := h x List.mem_cons_self
    have nd2 := List.nodup_cons.mp nd
    have ih := nodup_le (xs := xs) (z := z.erase x) nd2.2 fun y hy => (List.mem_erase_of_ne (fun e => nd2.1 (by rw [← e]; exact hy))).mpr (h y (List.mem_cons_of_mem _ hy))
    rw [List.length_erase_of_mem hx] at ih
    have : 0 < z.length := List.length_pos_of_mem hx
    rw [List.length_cons]
    omega
end Rz

namespace Rz
open PySem L2
/-! ### the text by places -/
def top (i : Nat) : Stmt := PySem.Challenge.pw_risensigns_k07_rule_step.main.body.getD i (.Pass ⟨0, 0, 0, 0⟩)
abbrev prg : Program := PySem.Challenge.pw_risensigns_k07_rule_step
abbrev s_check_text : Stmt := top 15
abbrev s_decoded : Stmt := top 13
abbrev s_is_sign : Stmt := top 14
abbrev s_check_height : Stmt := top 16
abbrev s_Row_init : Stmt := inClass (top 18) 0
abbrev s_Row_signs : Stmt := inClass (top 18) 1
abbrev s_Row_heights : Stmt := inClass (top 18) 2
abbrev s_Row_len : Stmt := inClass (top 18) 3
abbrev s_Row_iter : Stmt := inClass (top 18) 4
abbrev s_Row_abs : Stmt := inClass (top 18) 11
abbrev s_Row_check_place : Stmt := inClass (top 18) 16
abbrev s__row_of : Stmt := top 19
abbrev s_Row_getitem : Stmt := inClass (top 18) 12
abbrev s_Row_setitem : Stmt := inClass (top 18) 13
abbrev s_Rule_init : Stmt := inClass (top 22) 0
abbrev s_Rule_str : Stmt := inClass (top 22) 1
abbrev s__fits : Stmt := top 23
abbrev s__stepped : Stmt := top 24
abbrev s_Rule_call : Stmt := inClass (top 22) 2
abbrev s__law_pool : Stmt := top 26
abbrev s__law_pick : Stmt := top 27
abbrev s__law_alphabet : Stmt := top 28
abbrev s__law_word_of : Stmt := top 29
abbrev s__law_is_int : Stmt := top 30
abbrev s__law_take : Stmt := top 31
abbrev s__law_shows : Stmt := top 32
abbrev s__law_as_row : Stmt := top 33
abbrev s__law_due_of : Stmt := top 34
abbrev s__law_done : Stmt := top 35
abbrev s__law_done_named : Stmt := top 36
abbrev s__law_done_first : Stmt := top 37
abbrev s__law_same : Stmt := top 38
abbrev s_law : Stmt := top 39
abbrev s_BadSign_init : Stmt := inClass (top 3) 0
abbrev s_NoPlace_init : Stmt := inClass (top 4) 0
abbrev s_Mismatch_init : Stmt := inClass (top 5) 0
abbrev s_BadHeight_init : Stmt := inClass (top 6) 0
abbrev s_Beyond_init : Stmt := inClass (top 7) 0
abbrev N_check_text : List Str := ["text", "at", "sign"]
abbrev P_check_text : List Str := ["text"]
abbrev N_decoded : List Str := ["text"]
abbrev P_decoded : List Str := ["text"]
abbrev N_is_sign : List Str := ["text"]
abbrev P_is_sign : List Str := ["text"]
abbrev N_check_height : List Str := ["height", "greatest"]
abbrev P_check_height : List Str := ["height", "greatest"]
abbrev N_Row_init : List Str := ["self", "text", "heights", "signs", "height"]
abbrev P_Row_init : List Str := ["self", "text", "heights"]
abbrev N_Row_signs : List Str := ["self", "sign", "_"]
abbrev P_Row_signs : List Str := ["self"]
abbrev N_Row_heights : List Str := ["self", "_", "height"]
abbrev P_Row_heights : List Str := ["self"]
abbrev N_Row_len : List Str := ["self"]
abbrev P_Row_len : List Str := ["self"]
abbrev N_Row_iter : List Str := ["self"]
abbrev P_Row_iter : List Str := ["self"]
abbrev N_Row_abs : List Str := ["self"]
abbrev P_Row_abs : List Str := ["self"]
abbrev N_Row_check_place : List Str := ["self", "at"]
abbrev P_Row_check_place : List Str := ["self", "at"]
abbrev N__row_of : List Str := ["pairs", "sign", "_", "signs", "height"]
abbrev P__row_of : List Str := ["pairs"]
abbrev N_Row_getitem : List Str := ["self", "at"]
abbrev P_Row_getitem : List Str := ["self", "at"]
abbrev N_Row_setitem : List Str := ["self", "at", "worth", "sign", "height"]
abbrev P_Row_setitem : List Str := ["self", "at", "worth"]
abbrev N_Rule_init : List Str := ["self", "left", "right"]
abbrev P_Rule_init : List Str := ["self", "left", "right"]
abbrev N_Rule_str : List Str := ["self"]
abbrev P_Rule_str : List Str := ["self"]
abbrev N__fits : List Str := ["rule", "signs", "at"]
abbrev P__fits : List Str := ["rule", "signs", "at"]
abbrev N__stepped : List Str := ["rule", "row", "at", "most", "end", "height", "stepped"]
abbrev P__stepped : List Str := ["rule", "row", "at", "most"]
abbrev N_Rule_call : List Str := ["self", "row", "at"]
abbrev P_Rule_call : List Str := ["self", "row", "at"]
abbrev N__law_pool : List Str := ["_law_script", "_law_draws", "_law_seed", "_law_cell", "_law_rest", "_law_k", "_law_value"]
abbrev P__law_pool : List Str := ["_law_script"]
abbrev N__law_pick : List Str := ["_law_draws", "_law_many"]
abbrev P__law_pick : List Str := ["_law_draws", "_law_many"]
abbrev N__law_alphabet : List Str := ["_law_draws", "_law_many", "_law_letters", "_law_signs", "_law_k", "_law_letter", "_law_left"]
abbrev P__law_alphabet : List Str := ["_law_draws", "_law_many"]
abbrev N__law_word_of : List Str := ["_law_draws", "_law_signs", "_law_least", "_law_greatest", "_law_size", "_law_k"]
abbrev P__law_word_of : List Str := ["_law_draws", "_law_signs", "_law_least", "_law_greatest"]
abbrev N__law_is_int : List Str := ["_law_value"]
abbrev P__law_is_int : List Str := ["_law_value"]
abbrev N__law_take : List Str := ["_law_row", "_law_rule", "_law_place", "_law_left", "_law_part", "_law_sign", "_law_height", "_law_least"]
abbrev P__law_take : List Str := ["_law_row", "_law_rule", "_law_place"]
abbrev N__law_shows : List Str := ["_law_row", "_law_pairs", "_law_told", "_law_k", "_law_pair"]
abbrev P__law_shows : List Str := ["_law_row", "_law_pairs"]
abbrev N__law_as_row : List Str := ["_law_pairs", "_law_pair"]
abbrev P__law_as_row : List Str := ["_law_pairs"]
abbrev N__law_due_of : List Str := ["_law_pairs", "_law_sides", "_law_place", "_law_after", "_law_pair", "_law_least"]
abbrev P__law_due_of : List Str := ["_law_pairs", "_law_sides", "_law_place"]
abbrev N__law_done : List Str := ["_law_rule", "_law_row", "_law_place", "_law_after", "e", "f"]
abbrev P__law_done : List Str := ["_law_rule", "_law_row", "_law_place"]
abbrev N__law_done_named : List Str := ["_law_rule", "_law_row", "_law_place", "_law_after", "e", "f"]
abbrev P__law_done_named : List Str := ["_law_rule", "_law_row", "_law_place"]
abbrev N__law_done_first : List Str := ["_law_rule", "_law_row", "_law_after", "e", "f"]
abbrev P__law_done_first : List Str := ["_law_rule", "_law_row"]
abbrev N__law_same : List Str := ["_law_told", "_law_due"]
abbrev P__law_same : List Str := ["_law_told", "_law_due"]
abbrev N_law : List Str := ["_law_script", "_law_draws", "_law_signs", "_law_sides", "_law_floor", "_law_ahead", "_law_text", "_law_sign", "_law_pairs", "_law_place", "_law_rule", "_law_row", "_law_told", "_law_after"]
abbrev P_law : List Str := ["_law_script"]
/-! ### what stands behind the top -/
structure Txt (K : PySem.W.Frag) (mg : Str → Option Value) : Type where
  n_abs : mg "abs" = none
  n_bool : mg "bool" = none
  n_bytes : mg "bytes" = none
  n_enumerate : mg "enumerate" = none
  n_int : mg "int" = none
  n_isinstance : mg "isinstance" = none
  n_iter : mg "iter" = none
  n_len : mg "len" = none
  n_list : mg "list" = none
  n_max : mg "max" = none
  n_min : mg "min" = none
  n_property : mg "property" = none
  n_range : mg "range" = none
  n_str : mg "str" = none
  n_tuple : mg "tuple" = none
  n_zip : mg "zip" = none
  k_SIGNS : ∃ t, mg "SIGNS" = some (.str "abcdefghijklmnopqrstuvwxyz" t)
  k_GREATEST_HEIGHT : ∃ t, mg "GREATEST_HEIGHT" = some (.int 9 t)
  k_MOST_SIGNS : ∃ t, mg "MOST_SIGNS" = some (.int 4 t)
  c_BadSign : Addr
  m_BadSign : mg "BadSign" = some (.ref c_BadSign)
  o_BadSign : OexC K c_BadSign
  x_BadSign : ExF K c_BadSign "at"
  f_BadSign_init : Addr
  fd_BadSign_init : FuncData
  i_BadSign : PySem.W.findIn K (.ref c_BadSign) "__init__" = some (some (.ref f_BadSign_init))
  t_BadSign : PySem.W.typeIn K (.ref f_BadSign_init) = some (.type "function")
  F_BadSign_init : ExInit prg K mg c_BadSign f_BadSign_init fd_BadSign_init "at" s_BadSign_init
  b_BadSign_init : Binds K fd_BadSign_init ["self", "at"] []
  em_BadSign_BadSign : PySem.W.exmOne K (.ref c_BadSign) (.ref c_BadSign) = some true
  -- em_BadSign_NoPlace below
  -- em_BadSign_Mismatch below
  -- em_BadSign_BadHeight below
  -- em_BadSign_Beyond below
  -- em_BadSign_Uneven below
  -- em_BadSign_BadRule below
  c_NoPlace : Addr
  m_NoPlace : mg "NoPlace" = some (.ref c_NoPlace)
  o_NoPlace : OexC K c_NoPlace
  x_NoPlace : ExF K c_NoPlace "at"
  f_NoPlace_init : Addr
  fd_NoPlace_init : FuncData
  i_NoPlace : PySem.W.findIn K (.ref c_NoPlace) "__init__" = some (some (.ref f_NoPlace_init))
  t_NoPlace : PySem.W.typeIn K (.ref f_NoPlace_init) = some (.type "function")
  F_NoPlace_init : ExInit prg K mg c_NoPlace f_NoPlace_init fd_NoPlace_init "at" s_NoPlace_init
  b_NoPlace_init : Binds K fd_NoPlace_init ["self", "at"] []
  em_NoPlace_BadSign : PySem.W.exmOne K (.ref c_NoPlace) (.ref c_BadSign) = some false
  em_NoPlace_NoPlace : PySem.W.exmOne K (.ref c_NoPlace) (.ref c_NoPlace) = some true
  -- em_NoPlace_Mismatch below
  -- em_NoPlace_BadHeight below
  -- em_NoPlace_Beyond below
  -- em_NoPlace_Uneven below
  -- em_NoPlace_BadRule below
  c_Mismatch : Addr
  m_Mismatch : mg "Mismatch" = some (.ref c_Mismatch)
  o_Mismatch : OexC K c_Mismatch
  x_Mismatch : ExF K c_Mismatch "at"
  f_Mismatch_init : Addr
  fd_Mismatch_init : FuncData
  i_Mismatch : PySem.W.findIn K (.ref c_Mismatch) "__init__" = some (some (.ref f_Mismatch_init))
  t_Mismatch : PySem.W.typeIn K (.ref f_Mismatch_init) = some (.type "function")
  F_Mismatch_init : ExInit prg K mg c_Mismatch f_Mismatch_init fd_Mismatch_init "at" s_Mismatch_init
  b_Mismatch_init : Binds K fd_Mismatch_init ["self", "at"] []
  em_Mismatch_BadSign : PySem.W.exmOne K (.ref c_Mismatch) (.ref c_BadSign) = some false
  em_Mismatch_NoPlace : PySem.W.exmOne K (.ref c_Mismatch) (.ref c_NoPlace) = some false
  em_Mismatch_Mismatch : PySem.W.exmOne K (.ref c_Mismatch) (.ref c_Mismatch) = some true
  -- em_Mismatch_BadHeight below
  -- em_Mismatch_Beyond below
  -- em_Mismatch_Uneven below
  -- em_Mismatch_BadRule below
  c_BadHeight : Addr
  m_BadHeight : mg "BadHeight" = some (.ref c_BadHeight)
  o_BadHeight : OexC K c_BadHeight
  x_BadHeight : ExF K c_BadHeight "height"
  f_BadHeight_init : Addr
  fd_BadHeight_init : FuncData
  i_BadHeight : PySem.W.findIn K (.ref c_BadHeight) "__init__" = some (some (.ref f_BadHeight_init))
  t_BadHeight : PySem.W.typeIn K (.ref f_BadHeight_init) = some (.type "function")
  F_BadHeight_init : ExInit prg K mg c_BadHeight f_BadHeight_init fd_BadHeight_init "height" s_BadHeight_init
  b_BadHeight_init : Binds K fd_BadHeight_init ["self", "height"] []
  em_BadHeight_BadSign : PySem.W.exmOne K (.ref c_BadHeight) (.ref c_BadSign) = some false
  em_BadHeight_NoPlace : PySem.W.exmOne K (.ref c_BadHeight) (.ref c_NoPlace) = some false
  em_BadHeight_Mismatch : PySem.W.exmOne K (.ref c_BadHeight) (.ref c_Mismatch) = some false
  em_BadHeight_BadHeight : PySem.W.exmOne K (.ref c_BadHeight) (.ref c_BadHeight) = some true
  -- em_BadHeight_Beyond below
  -- em_BadHeight_Uneven below
  -- em_BadHeight_BadRule below
  c_Beyond : Addr
  m_Beyond : mg "Beyond" = some (.ref c_Beyond)
  o_Beyond : OexC K c_Beyond
  x_Beyond : ExF K c_Beyond "height"
  f_Beyond_init : Addr
  fd_Beyond_init : FuncData
  i_Beyond : PySem.W.findIn K (.ref c_Beyond) "__init__" = some (some (.ref f_Beyond_init))
  t_Beyond : PySem.W.typeIn K (.ref f_Beyond_init) = some (.type "function")
  F_Beyond_init : ExInit prg K mg c_Beyond f_Beyond_init fd_Beyond_init "height" s_Beyond_init
  b_Beyond_init : Binds K fd_Beyond_init ["self", "height"] []
  em_Beyond_BadSign : PySem.W.exmOne K (.ref c_Beyond) (.ref c_BadSign) = some false
  em_Beyond_NoPlace : PySem.W.exmOne K (.ref c_Beyond) (.ref c_NoPlace) = some false
  em_Beyond_Mismatch : PySem.W.exmOne K (.ref c_Beyond) (.ref c_Mismatch) = some false
  em_Beyond_BadHeight : PySem.W.exmOne K (.ref c_Beyond) (.ref c_BadHeight) = some false
  em_Beyond_Beyond : PySem.W.exmOne K (.ref c_Beyond) (.ref c_Beyond) = some true
  -- em_Beyond_Uneven below
  -- em_Beyond_BadRule below
  c_Uneven : Addr
  m_Uneven : mg "Uneven" = some (.ref c_Uneven)
  o_Uneven : PySem.W.excIn K c_Uneven [.type "ValueError", .type "Exception", .type "BaseException", .type "object"] "ValueError.__new__" = true
  kp_Uneven : PySem.W.keepIn K (.ref c_Uneven) = true
  r_Uneven : PySem.W.subIn K (.ref c_Uneven) (.type "BaseException") = some true
  t_Uneven : PySem.W.typeIn K (.ref c_Uneven) = some (.type "type")
  em_Uneven_BadSign : PySem.W.exmOne K (.ref c_Uneven) (.ref c_BadSign) = some false
  em_Uneven_NoPlace : PySem.W.exmOne K (.ref c_Uneven) (.ref c_NoPlace) = some false
  em_Uneven_Mismatch : PySem.W.exmOne K (.ref c_Uneven) (.ref c_Mismatch) = some false
  em_Uneven_BadHeight : PySem.W.exmOne K (.ref c_Uneven) (.ref c_BadHeight) = some false
  em_Uneven_Beyond : PySem.W.exmOne K (.ref c_Uneven) (.ref c_Beyond) = some false
  em_Uneven_Uneven : PySem.W.exmOne K (.ref c_Uneven) (.ref c_Uneven) = some true
  -- em_Uneven_BadRule below
  c_BadRule : Addr
  m_BadRule : mg "BadRule" = some (.ref c_BadRule)
  o_BadRule : PySem.W.excIn K c_BadRule [.type "ValueError", .type "Exception", .type "BaseException", .type "object"] "ValueError.__new__" = true
  kp_BadRule : PySem.W.keepIn K (.ref c_BadRule) = true
  r_BadRule : PySem.W.subIn K (.ref c_BadRule) (.type "BaseException") = some true
  t_BadRule : PySem.W.typeIn K (.ref c_BadRule) = some (.type "type")
  em_BadRule_BadSign : PySem.W.exmOne K (.ref c_BadRule) (.ref c_BadSign) = some false
  em_BadRule_NoPlace : PySem.W.exmOne K (.ref c_BadRule) (.ref c_NoPlace) = some false
  em_BadRule_Mismatch : PySem.W.exmOne K (.ref c_BadRule) (.ref c_Mismatch) = some false
  em_BadRule_BadHeight : PySem.W.exmOne K (.ref c_BadRule) (.ref c_BadHeight) = some false
  em_BadRule_Beyond : PySem.W.exmOne K (.ref c_BadRule) (.ref c_Beyond) = some false
  em_BadRule_Uneven : PySem.W.exmOne K (.ref c_BadRule) (.ref c_Uneven) = some false
  em_BadRule_BadRule : PySem.W.exmOne K (.ref c_BadRule) (.ref c_BadRule) = some true
  em_BadSign_NoPlace : PySem.W.exmOne K (.ref c_BadSign) (.ref c_NoPlace) = some false
  em_BadSign_Mismatch : PySem.W.exmOne K (.ref c_BadSign) (.ref c_Mismatch) = some false
  em_BadSign_BadHeight : PySem.W.exmOne K (.ref c_BadSign) (.ref c_BadHeight) = some false
  em_BadSign_Beyond : PySem.W.exmOne K (.ref c_BadSign) (.ref c_Beyond) = some false
  em_BadSign_Uneven : PySem.W.exmOne K (.ref c_BadSign) (.ref c_Uneven) = some false
  em_BadSign_BadRule : PySem.W.exmOne K (.ref c_BadSign) (.ref c_BadRule) = some false
  em_NoPlace_Mismatch : PySem.W.exmOne K (.ref c_NoPlace) (.ref c_Mismatch) = some false
  em_NoPlace_BadHeight : PySem.W.exmOne K (.ref c_NoPlace) (.ref c_BadHeight) = some false
  em_NoPlace_Beyond : PySem.W.exmOne K (.ref c_NoPlace) (.ref c_Beyond) = some false
  em_NoPlace_Uneven : PySem.W.exmOne K (.ref c_NoPlace) (.ref c_Uneven) = some false
  em_NoPlace_BadRule : PySem.W.exmOne K (.ref c_NoPlace) (.ref c_BadRule) = some false
  em_Mismatch_BadHeight : PySem.W.exmOne K (.ref c_Mismatch) (.ref c_BadHeight) = some false
  em_Mismatch_Beyond : PySem.W.exmOne K (.ref c_Mismatch) (.ref c_Beyond) = some false
  em_Mismatch_Uneven : PySem.W.exmOne K (.ref c_Mismatch) (.ref c_Uneven) = some false
  em_Mismatch_BadRule : PySem.W.exmOne K (.ref c_Mismatch) (.ref c_BadRule) = some false
  em_BadHeight_Beyond : PySem.W.exmOne K (.ref c_BadHeight) (.ref c_Beyond) = some false
  em_BadHeight_Uneven : PySem.W.exmOne K (.ref c_BadHeight) (.ref c_Uneven) = some false
  em_BadHeight_BadRule : PySem.W.exmOne K (.ref c_BadHeight) (.ref c_BadRule) = some false
  em_Beyond_Uneven : PySem.W.exmOne K (.ref c_Beyond) (.ref c_Uneven) = some false
  em_Beyond_BadRule : PySem.W.exmOne K (.ref c_Beyond) (.ref c_BadRule) = some false
  em_Uneven_BadRule : PySem.W.exmOne K (.ref c_Uneven) (.ref c_BadRule) = some false
  c_Row : Addr
  m_Row : mg "Row" = some (.ref c_Row)
  cl_Row : Cls K c_Row
  mk_Row : PySem.W.makesIn K c_Row = true
  kp_Row : PySem.W.keepIn K (.ref c_Row) = true
  is_Row : C8.InsC K c_Row
  sf_Row : PySem.W.selfFirst K c_Row = true
  nsq_Row : PySem.W.noSeq K c_Row = true
  na_Row__pairs : NoAttr K c_Row "_pairs"
  c_Rule : Addr
  m_Rule : mg "Rule" = some (.ref c_Rule)
  cl_Rule : Cls K c_Rule
  mk_Rule : PySem.W.makesIn K c_Rule = true
  kp_Rule : PySem.W.keepIn K (.ref c_Rule) = true
  is_Rule : C8.InsC K c_Rule
  sf_Rule : PySem.W.selfFirst K c_Rule = true
  na_Rule_left : NoAttr K c_Rule "left"
  na_Rule_right : NoAttr K c_Rule "right"
  f_check_text : Addr
  fd_check_text : FuncData
  F_check_text : Fun K "check_text" "check_text" s_check_text f_check_text fd_check_text
  b_check_text : Binds K fd_check_text P_check_text []
  m_check_text : mg "check_text" = some (.ref f_check_text)
  f_decoded : Addr
  fd_decoded : FuncData
  F_decoded : Fun K "decoded" "decoded" s_decoded f_decoded fd_decoded
  b_decoded : Binds K fd_decoded P_decoded []
  m_decoded : mg "decoded" = some (.ref f_decoded)
  f_is_sign : Addr
  fd_is_sign : FuncData
  F_is_sign : Fun K "is_sign" "is_sign" s_is_sign f_is_sign fd_is_sign
  b_is_sign : Binds K fd_is_sign P_is_sign []
  m_is_sign : mg "is_sign" = some (.ref f_is_sign)
  f_check_height : Addr
  fd_check_height : FuncData
  F_check_height : Fun K "check_height" "check_height" s_check_height f_check_height fd_check_height
  b_check_height : Binds K fd_check_height P_check_height []
  m_check_height : mg "check_height" = some (.ref f_check_height)
  f_Row_init : Addr
  fd_Row_init : FuncData
  D_Row_init : FunD K "__init__" "Row.__init__" (defArgs s_Row_init) (defBody s_Row_init) (defScope s_Row_init) [.str "", .non] [] f_Row_init fd_Row_init
  kp_Row_init : PySem.W.keepIn K (.ref f_Row_init) = true
  M_Row_init : Meth K c_Row "__init__" f_Row_init
  f_Row_signs : Addr
  fd_Row_signs : FuncData
  F_Row_signs : Fun K "signs" "Row.signs" s_Row_signs f_Row_signs fd_Row_signs
  b_Row_signs : Binds K fd_Row_signs P_Row_signs []
  p_Row_signs : Addr
  M_Row_signs : PropOf K c_Row "signs" p_Row_signs f_Row_signs
  f_Row_heights : Addr
  fd_Row_heights : FuncData
  F_Row_heights : Fun K "heights" "Row.heights" s_Row_heights f_Row_heights fd_Row_heights
  b_Row_heights : Binds K fd_Row_heights P_Row_heights []
  p_Row_heights : Addr
  M_Row_heights : PropOf K c_Row "heights" p_Row_heights f_Row_heights
  f_Row_len : Addr
  fd_Row_len : FuncData
  F_Row_len : Fun K "__len__" "Row.__len__" s_Row_len f_Row_len fd_Row_len
  b_Row_len : Binds K fd_Row_len P_Row_len []
  M_Row_len : Meth K c_Row "__len__" f_Row_len
  f_Row_iter : Addr
  fd_Row_iter : FuncData
  F_Row_iter : Fun K "__iter__" "Row.__iter__" s_Row_iter f_Row_iter fd_Row_iter
  b_Row_iter : Binds K fd_Row_iter P_Row_iter []
  M_Row_iter : Meth K c_Row "__iter__" f_Row_iter
  f_Row_abs : Addr
  fd_Row_abs : FuncData
  F_Row_abs : Fun K "__abs__" "Row.__abs__" s_Row_abs f_Row_abs fd_Row_abs
  b_Row_abs : Binds K fd_Row_abs P_Row_abs []
  M_Row_abs : Meth K c_Row "__abs__" f_Row_abs
  f_Row_check_place : Addr
  fd_Row_check_place : FuncData
  F_Row_check_place : Fun K "_check_place" "Row._check_place" s_Row_check_place f_Row_check_place fd_Row_check_place
  b_Row_check_place : Binds K fd_Row_check_place P_Row_check_place []
  M_Row_check_place : Meth K c_Row "_check_place" f_Row_check_place
  f__row_of : Addr
  fd__row_of : FuncData
  F__row_of : Fun K "_row_of" "_row_of" s__row_of f__row_of fd__row_of
  b__row_of : Binds K fd__row_of P__row_of []
  m__row_of : mg "_row_of" = some (.ref f__row_of)
  f_Row_getitem : Addr
  fd_Row_getitem : FuncData
  F_Row_getitem : Fun K "__getitem__" "Row.__getitem__" s_Row_getitem f_Row_getitem fd_Row_getitem
  b_Row_getitem : Binds K fd_Row_getitem P_Row_getitem []
  M_Row_getitem : Meth K c_Row "__getitem__" f_Row_getitem
  f_Row_setitem : Addr
  fd_Row_setitem : FuncData
  F_Row_setitem : Fun K "__setitem__" "Row.__setitem__" s_Row_setitem f_Row_setitem fd_Row_setitem
  b_Row_setitem : Binds K fd_Row_setitem P_Row_setitem []
  M_Row_setitem : Meth K c_Row "__setitem__" f_Row_setitem
  f_Rule_init : Addr
  fd_Rule_init : FuncData
  D_Rule_init : FunD K "__init__" "Rule.__init__" (defArgs s_Rule_init) (defBody s_Rule_init) (defScope s_Rule_init) [.str ""] [] f_Rule_init fd_Rule_init
  kp_Rule_init : PySem.W.keepIn K (.ref f_Rule_init) = true
  M_Rule_init : Meth K c_Rule "__init__" f_Rule_init
  f_Rule_str : Addr
  fd_Rule_str : FuncData
  F_Rule_str : Fun K "__str__" "Rule.__str__" s_Rule_str f_Rule_str fd_Rule_str
  b_Rule_str : Binds K fd_Rule_str P_Rule_str []
  M_Rule_str : Meth K c_Rule "__str__" f_Rule_str
  f__fits : Addr
  fd__fits : FuncData
  F__fits : Fun K "_fits" "_fits" s__fits f__fits fd__fits
  b__fits : Binds K fd__fits P__fits []
  m__fits : mg "_fits" = some (.ref f__fits)
  f__stepped : Addr
  fd__stepped : FuncData
  F__stepped : Fun K "_stepped" "_stepped" s__stepped f__stepped fd__stepped
  b__stepped : Binds K fd__stepped P__stepped []
  m__stepped : mg "_stepped" = some (.ref f__stepped)
  f_Rule_call : Addr
  fd_Rule_call : FuncData
  D_Rule_call : FunD K "__call__" "Rule.__call__" (defArgs s_Rule_call) (defBody s_Rule_call) (defScope s_Rule_call) [.int 0] [] f_Rule_call fd_Rule_call
  kp_Rule_call : PySem.W.keepIn K (.ref f_Rule_call) = true
  M_Rule_call : Meth K c_Rule "__call__" f_Rule_call
  f__law_pool : Addr
  fd__law_pool : FuncData
  F__law_pool : Fun K "_law_pool" "_law_pool" s__law_pool f__law_pool fd__law_pool
  b__law_pool : Binds K fd__law_pool P__law_pool []
  m__law_pool : mg "_law_pool" = some (.ref f__law_pool)
  f__law_pick : Addr
  fd__law_pick : FuncData
  F__law_pick : Fun K "_law_pick" "_law_pick" s__law_pick f__law_pick fd__law_pick
  b__law_pick : Binds K fd__law_pick P__law_pick []
  m__law_pick : mg "_law_pick" = some (.ref f__law_pick)
  f__law_alphabet : Addr
  fd__law_alphabet : FuncData
  F__law_alphabet : Fun K "_law_alphabet" "_law_alphabet" s__law_alphabet f__law_alphabet fd__law_alphabet
  b__law_alphabet : Binds K fd__law_alphabet P__law_alphabet []
  m__law_alphabet : mg "_law_alphabet" = some (.ref f__law_alphabet)
  f__law_word_of : Addr
  fd__law_word_of : FuncData
  F__law_word_of : Fun K "_law_word_of" "_law_word_of" s__law_word_of f__law_word_of fd__law_word_of
  b__law_word_of : Binds K fd__law_word_of P__law_word_of []
  m__law_word_of : mg "_law_word_of" = some (.ref f__law_word_of)
  f__law_is_int : Addr
  fd__law_is_int : FuncData
  F__law_is_int : Fun K "_law_is_int" "_law_is_int" s__law_is_int f__law_is_int fd__law_is_int
  b__law_is_int : Binds K fd__law_is_int P__law_is_int []
  m__law_is_int : mg "_law_is_int" = some (.ref f__law_is_int)
  f__law_take : Addr
  fd__law_take : FuncData
  F__law_take : Fun K "_law_take" "_law_take" s__law_take f__law_take fd__law_take
  b__law_take : Binds K fd__law_take P__law_take []
  m__law_take : mg "_law_take" = some (.ref f__law_take)
  f__law_shows : Addr
  fd__law_shows : FuncData
  F__law_shows : Fun K "_law_shows" "_law_shows" s__law_shows f__law_shows fd__law_shows
  b__law_shows : Binds K fd__law_shows P__law_shows []
  m__law_shows : mg "_law_shows" = some (.ref f__law_shows)
  f__law_as_row : Addr
  fd__law_as_row : FuncData
  F__law_as_row : Fun K "_law_as_row" "_law_as_row" s__law_as_row f__law_as_row fd__law_as_row
  b__law_as_row : Binds K fd__law_as_row P__law_as_row []
  m__law_as_row : mg "_law_as_row" = some (.ref f__law_as_row)
  f__law_due_of : Addr
  fd__law_due_of : FuncData
  F__law_due_of : Fun K "_law_due_of" "_law_due_of" s__law_due_of f__law_due_of fd__law_due_of
  b__law_due_of : Binds K fd__law_due_of P__law_due_of []
  m__law_due_of : mg "_law_due_of" = some (.ref f__law_due_of)
  f__law_done : Addr
  fd__law_done : FuncData
  F__law_done : Fun K "_law_done" "_law_done" s__law_done f__law_done fd__law_done
  b__law_done : Binds K fd__law_done P__law_done []
  m__law_done : mg "_law_done" = some (.ref f__law_done)
  f__law_done_named : Addr
  fd__law_done_named : FuncData
  F__law_done_named : Fun K "_law_done_named" "_law_done_named" s__law_done_named f__law_done_named fd__law_done_named
  b__law_done_named : Binds K fd__law_done_named P__law_done_named []
  m__law_done_named : mg "_law_done_named" = some (.ref f__law_done_named)
  f__law_done_first : Addr
  fd__law_done_first : FuncData
  F__law_done_first : Fun K "_law_done_first" "_law_done_first" s__law_done_first f__law_done_first fd__law_done_first
  b__law_done_first : Binds K fd__law_done_first P__law_done_first []
  m__law_done_first : mg "_law_done_first" = some (.ref f__law_done_first)
  f__law_same : Addr
  fd__law_same : FuncData
  F__law_same : Fun K "_law_same" "_law_same" s__law_same f__law_same fd__law_same
  b__law_same : Binds K fd__law_same P__law_same []
  m__law_same : mg "_law_same" = some (.ref f__law_same)
  f_law : Addr
  fd_law : FuncData
  F_law : Fun K "law" "law" s_law f_law fd_law
  b_law : Binds K fd_law P_law []
  m_law : mg "law" = some (.ref f_law)
theorem bd_Row_init_1 {K : PySem.W.Frag} {mg : Str → Option Value} (T : Txt K mg) : ∃ ds, Vals (([.str "", .non] : List V).drop 0) ds ∧ Binds K T.fd_Row_init P_Row_init ds :=
  T.D_Row_init.binds1 (ps := P_Row_init) 1 0 (by simp) rfl fun _ _ _ _ _ _ _ us its hu hi => match us, its, hu, hi with | [_], [_, _], _, _ => ⟨_, rfl, rfl⟩
theorem bd_Row_init_2 {K : PySem.W.Frag} {mg : Str → Option Value} (T : Txt K mg) : ∃ ds, Vals (([.str "", .non] : List V).drop 1) ds ∧ Binds K T.fd_Row_init P_Row_init ds :=
  T.D_Row_init.binds1 (ps := P_Row_init) 2 1 (by simp) rfl fun _ _ _ _ _ _ _ us its hu hi => match us, its, hu, hi with | [_, _], [_, _], _, _ => ⟨_, rfl, rfl⟩
theorem bd_Row_init_3 {K : PySem.W.Frag} {mg : Str → Option Value} (T : Txt K mg) : ∃ ds, Vals (([.str "", .non] : List V).drop 2) ds ∧ Binds K T.fd_Row_init P_Row_init ds :=
  T.D_Row_init.binds1 (ps := P_Row_init) 3 2 (by simp) rfl fun _ _ _ _ _ _ _ us its hu hi => match us, its, hu, hi with | [_, _, _], [_, _], _, _ => ⟨_, rfl, rfl⟩
theorem bd_Rule_init_2 {K : PySem.W.Frag} {mg : Str → Option Value} (T : Txt K mg) : ∃ ds, Vals (([.str ""] : List V).drop 0) ds ∧ Binds K T.fd_Rule_init P_Rule_init ds :=
  T.D_Rule_init.binds1 (ps := P_Rule_init) 2 0 (by simp) rfl fun _ _ _ _ _ _ _ us its hu hi => match us, its, hu, hi with | [_, _], [_], _, _ => ⟨_, rfl, rfl⟩
theorem bd_Rule_init_3 {K : PySem.W.Frag} {mg : Str → Option Value} (T : Txt K mg) : ∃ ds, Vals (([.str ""] : List V).drop 1) ds ∧ Binds K T.fd_Rule_init P_Rule_init ds :=
  T.D_Rule_init.binds1 (ps := P_Rule_init) 3 1 (by simp) rfl fun _ _ _ _ _ _ _ us its hu hi => match us, its, hu, hi with | [_, _, _], [_], _, _ => ⟨_, rfl, rfl⟩
theorem bd_Rule_call_2 {K : PySem.W.Frag} {mg : Str → Option Value} (T : Txt K mg) : ∃ ds, Vals (([.int 0] : List V).drop 0) ds ∧ Binds K T.fd_Rule_call P_Rule_call ds :=
  T.D_Rule_call.binds1 (ps := P_Rule_call) 2 0 (by simp) rfl fun _ _ _ _ _ _ _ us its hu hi => match us, its, hu, hi with | [_, _], [_], _, _ => ⟨_, rfl, rfl⟩
theorem bd_Rule_call_3 {K : PySem.W.Frag} {mg : Str → Option Value} (T : Txt K mg) : ∃ ds, Vals (([.int 0] : List V).drop 1) ds ∧ Binds K T.fd_Rule_call P_Rule_call ds :=
  T.D_Rule_call.binds1 (ps := P_Rule_call) 3 1 (by simp) rfl fun _ _ _ _ _ _ _ us its hu hi => match us, its, hu, hi with | [_, _, _], [_], _, _ => ⟨_, rfl, rfl⟩
theorem ok_BadSign_init {w : World} {K : PySem.W.Frag} {mg : Str → Option Value} {base : Heap} (T : Txt K mg) : FnOk prg w K mg base (L2.CX prg w) 1 T.f_BadSign_init T.fd_BadSign_init ["self", "at"] (spExI T.c_BadSign "at") :=
  exinit_ok T.o_BadSign T.F_BadSign_init rfl rfl rfl rfl rfl rfl rfl rfl rfl rfl (by decide +kernel) (by decide +kernel) (by decide +kernel) (by decide) (by decide) (msg_ok2 rfl (by decide) (by decide) (by decide +kernel)) (fun _ _ _ _ => rfl) (fun _ _ _ _ => rfl)
theorem ok_NoPlace_init {w : World} {K : PySem.W.Frag} {mg : Str → Option Value} {base : Heap} (T : Txt K mg) : FnOk prg w K mg base (L2.CX prg w) 1 T.f_NoPlace_init T.fd_NoPlace_init ["self", "at"] (spExI T.c_NoPlace "at") :=
  exinit_ok T.o_NoPlace T.F_NoPlace_init rfl rfl rfl rfl rfl rfl rfl rfl rfl rfl (by decide +kernel) (by decide +kernel) (by decide +kernel) (by decide) (by decide) (msg_ok2 rfl (by decide) (by decide) (by decide +kernel)) (fun _ _ _ _ => rfl) (fun _ _ _ _ => rfl)
theorem ok_Mismatch_init {w : World} {K : PySem.W.Frag} {mg : Str → Option Value} {base : Heap} (T : Txt K mg) : FnOk prg w K mg base (L2.CX prg w) 1 T.f_Mismatch_init T.fd_Mismatch_init ["self", "at"] (spExI T.c_Mismatch "at") :=
  exinit_ok T.o_Mismatch T.F_Mismatch_init rfl rfl rfl rfl rfl rfl rfl rfl rfl rfl (by decide +kernel) (by decide +kernel) (by decide +kernel) (by decide) (by decide) (msg_ok2 rfl (by decide) (by decide) (by decide +kernel)) (fun _ _ _ _ => rfl) (fun _ _ _ _ => rfl)
theorem ok_BadHeight_init {w : World} {K : PySem.W.Frag} {mg : Str → Option Value} {base : Heap} (T : Txt K mg) : FnOk prg w K mg base (L2.CX prg w) 1 T.f_BadHeight_init T.fd_BadHeight_init ["self", "height"] (spExI T.c_BadHeight "height") :=
  exinit_ok T.o_BadHeight T.F_BadHeight_init rfl rfl rfl rfl rfl rfl rfl rfl rfl rfl (by decide +kernel) (by decide +kernel) (by decide +kernel) (by decide) (by decide) (msg_ok3 rfl (by decide) (by decide) (by decide +kernel) (by decide +kernel)) (fun _ _ _ _ => rfl) (fun _ _ _ _ => rfl)
theorem ok_Beyond_init {w : World} {K : PySem.W.Frag} {mg : Str → Option Value} {base : Heap} (T : Txt K mg) : FnOk prg w K mg base (L2.CX prg w) 1 T.f_Beyond_init T.fd_Beyond_init ["self", "height"] (spExI T.c_Beyond "height") :=
  exinit_ok T.o_Beyond T.F_Beyond_init rfl rfl rfl rfl rfl rfl rfl rfl rfl rfl (by decide +kernel) (by decide +kernel) (by decide +kernel) (by decide) (by decide) (msg_ok2 rfl (by decide) (by decide) (by decide +kernel)) (fun _ _ _ _ => rfl) (fun _ _ _ _ => rfl)

end Rz
namespace Rz
open PySem PySem.Spec PyProof.Rows L2
/-- nothing for a text; else BadSign with the first place -/
def sp_check_text (cB : Addr) : Sp := fun vs H Q E => ∃ z : Str, vs = [.str z] ∧ z.length ≤ 1000000 ∧ (fo z = none → ∀ H', Same H H' → Q .non H') ∧
  (∀ i, fo z = some i → ∀ H' d, Same H H' → H d = none → H' d = some (.xd [("at", .int (i : Nat))]) → E (.ref cB) (some d) H')
section
variable {w : World} {K : PySem.W.Frag} {mg : Str → Option Value} {base : Heap}
theorem sc_check_text : FnScope N_check_text P_check_text (defScope s_check_text) := ⟨rfl, rfl, rfl, by decide +kernel, rfl, by decide +kernel, by decide +kernel⟩
theorem ok_check_text (T : Txt K mg) : FnOk prg w K mg base (L2.CX prg w) 3 T.f_check_text T.fd_check_text P_check_text (sp_check_text T.c_BadSign) := by
  refine T.F_check_text.okX sc_check_text (fun vs H Q E h => ?_) (fun cdv A outer s H vs Q E hr h => ?_)
  · obtain ⟨z, rfl, _⟩ := h
    rfl
  obtain ⟨z, rfl, hz, kg, kb⟩ := h
  have nd := sc_check_text.nd
  obtain ⟨tS, k_SIGNS⟩ := T.k_SIGNS
  have tk : Takes (cxOf (L2.CX prg w) prg w K mg base N_check_text "check_text" (defScope s_check_text) T.f_check_text cdv A outer s H E) (fun cls d _ H' => E cls d H') := takes_of rfl rfl rfl rfl
  refine ⟨_, (pss_one (ps_for (passes_of rfl) rfl (pi_enumS (by rfl) T.n_enumerate (pa_cons (pv 0) pa_nil)) (pg_tup rfl (pgs_cons (pg_name (i := 1) nd rfl (Or.inl rfl)) (pgs_cons (pg_name (i := 2) nd rfl (Or.inl rfl)) pgs_nil)))
      (pss_one (ps_if (pt_cmpR op_notIn_sign (pv 2) (pe_glob (v := .str abc) (by rfl) k_SIGNS ⟨_, rfl⟩) rfl) (pss_one (ps_raise rfl tk (pmk_oex T.o_BadSign T.i_BadSign T.t_BadSign (ok_BadSign_init T) (hr.mono (by decide)) T.b_BadSign_init .nil passN (by rfl) T.m_BadSign (pa_cons (pv 1) pa_nil)))) pss_nil)))), ?_⟩
  refine ⟨_, rfl, z, rfl, for_it walk_enumS (fun i σ H' => ∃ v1 v2 : Option V, σ = [some (.str z), v1, v2] ∧ Same H H' ∧ ∀ (j c : Nat), j < i → z.cps.toList[j]? = some c → oddC c = false)
    ⟨_, _, rfl, Same.refl H, fun j c hj => absurd hj (Nat.not_lt_zero j)⟩ (fun _ _ _ _ _ => True.intro) ?_ ?_⟩
  · rintro i x σ H1 H2 hi ⟨v1, v2, rfl, R, hb⟩ ⟨Tp, c, rfl, hT, rfl, hc⟩
    have R2 : Same H (upd H1 Tp (.tup [.int (i : Nat), .str ⟨#[c]⟩])) := Rz.Same.new R hT
    refine ⟨Tp, _, rfl, SqT.of upd_same, rfl, _, _, rfl, _, _, rfl, rfl, ?_⟩
    refine ⟨_, rfl, c, abc, rfl, rfl, _, rfl, ?_⟩
    refine ite2 (fun ho => ?_) (fun ho => ?_)
    · have hfo := fo_some hc ho hb
      have hl := fo_lt hfo
      exact ⟨_, rfl, by show 1 ≤ 1000; decide, raise_fld (log_nat (by omega)) fun H2 d S2 hd e => kb i hfo H2 d (R2.trans S2) (R2.free hd) e⟩
    · refine ⟨_, _, rfl, R2, fun j c2 hj h2 => ?_⟩
      by_cases e : j < i
      · exact hb j c2 e h2
      · have e3 : j = i := by omega
        subst e3
        rw [hc] at h2
        cases h2
        simpa [oddC] using ho
  · rintro σ H1 ⟨v1, v2, rfl, R, hb⟩
    exact kg (fo_none fun j c hj => hb j c (by
      have := (List.getElem?_eq_some_iff.mp hj).1
      simpa using this) hj) H1 R
end
end Rz

namespace Rz
open PySem PySem.Spec PyProof.Rows L2
def sp_decoded : Sp := fun vs H Q _ => ∃ z : Str, vs = [.str z] ∧ Q (.str z) H
section
variable {w : World} {K : PySem.W.Frag} {mg : Str → Option Value} {base : Heap}
theorem sc_decoded : FnScope N_decoded P_decoded (defScope s_decoded) := ⟨rfl, rfl, rfl, by decide +kernel, rfl, by decide +kernel, by decide +kernel⟩
theorem ok_decoded (T : Txt K mg) : FnOk prg w K mg base (L2.CX prg w) 1 T.f_decoded T.fd_decoded P_decoded sp_decoded := by
  refine Rz.Fun.okN T.F_decoded sc_decoded (fun vs H Q E h => ?_) (fun cdv A outer s H vs Q E hr h => ?_)
  · obtain ⟨z, rfl, _⟩ := h
    rfl
  obtain ⟨z, rfl, k⟩ := h
  refine ⟨_, (pss_cons (ps_if (pt_val (pe_callB call_isi (by rfl) T.n_isinstance (by decide +kernel) (pa_cons (pv 0) (pa_cons (pe_bltn (v := .ty "bytes") (by rfl) T.n_bytes (by decide +kernel) rfl) pa_nil)))) pss_never pss_nil)
    (pss_one (ps_ret (pv 0)))), ?_⟩
  refine ⟨_, rfl, _, _, .type "str", .type "bytes", false, rfl, .ty _, .base (.str z), kit_ty (by decide +kernel), false, rfl, ?_⟩
  exact iteF ⟨_, rfl, k⟩
end
end Rz

namespace Rz
open PySem PySem.Spec PyProof.Rows L2
/-- exactly one sign -/
def isSg (z : Str) : Bool := match z.cps.toList with
  | [c] => !oddC c
  | _ => false
def sp_is_sign : Sp := fun vs H Q _ => ∃ z : Str, vs = [.str z] ∧ z.length ≤ 1000000 ∧ Q (.bl (isSg z)) H
section
variable {w : World} {K : PySem.W.Frag} {mg : Str → Option Value} {base : Heap}
theorem sc_is_sign : FnScope N_is_sign P_is_sign (defScope s_is_sign) := ⟨rfl, rfl, rfl, by decide +kernel, rfl, by decide +kernel, by decide +kernel⟩
theorem ok_is_sign (T : Txt K mg) : FnOk prg w K mg base (L2.CX prg w) 1 T.f_is_sign T.fd_is_sign P_is_sign sp_is_sign := by
  refine Rz.Fun.okN T.F_is_sign sc_is_sign (fun vs H Q E h => ?_) (fun cdv A outer s H vs Q E hr h => ?_)
  · obtain ⟨z, rfl, _⟩ := h
    rfl
  obtain ⟨z, rfl, hz, k⟩ := h
  obtain ⟨tS, k_SIGNS⟩ := T.k_SIGNS
  refine ⟨_, (pss_one (ps_ret (pe_and (pe_cmpR op_eq (pe_callB call_len_str (by rfl) T.n_len PySem.boot_len (pa_cons (pv 0) pa_nil)) pe_int (nomark _)) (pe_one (pe_cmpR op_in_sign (pv 0) (pe_glob (v := .str abc) (by rfl) k_SIGNS ⟨_, rfl⟩) rfl))))), ?_⟩
  refine ⟨_, rfl, z, rfl, by rw [sizeLine_eq]; omega, rfl, ?_⟩
  obtain ⟨a⟩ := z
  obtain ⟨cs⟩ := a
  match cs, hz, k with
  | [], _, k => exact ⟨false, rfl, iteF k⟩
  | [c], _, k =>
    refine ⟨true, rfl, iteT ?_⟩
    refine ⟨_, rfl, c, abc, rfl, rfl, ?_⟩
    have e : isSg ⟨⟨[c]⟩⟩ = decide (c ∈ abc.cps.toList) := by
      show (!oddC c) = _
      unfold oddC
      simp
    rw [e] at k
    exact k
  | c :: d :: r, _, k =>
    refine ⟨false, ?_, iteF k⟩
    show V.bl (decide (V.int ((c :: d :: r).length : Nat) = V.int 1)) = V.bl false
    rw [decide_eq_false]
    intro e
    injection e with e
    simp at e
    omega
end
end Rz

namespace Rz
open PySem PySem.Spec PyProof.Rows L2
/-- nothing for a height from 0 to g; else BadHeight with it -/
def sp_check_height (cH : Addr) : Sp := fun vs H Q E => ∃ h g : Int, vs = [.int h, .int g] ∧ h.natAbs < 2 ^ 64 ∧ (0 ≤ h ∧ h ≤ g → Q .non H) ∧
  (¬ (0 ≤ h ∧ h ≤ g) → ∀ H' d, Same H H' → H d = none → H' d = some (.xd [("height", .int h)]) → E (.ref cH) (some d) H')
section
variable {w : World} {K : PySem.W.Frag} {mg : Str → Option Value} {base : Heap}
theorem sc_check_height : FnScope N_check_height P_check_height (defScope s_check_height) := ⟨rfl, rfl, rfl, by decide +kernel, rfl, by decide +kernel, by decide +kernel⟩
theorem ok_check_height (T : Txt K mg) : FnOk prg w K mg base (L2.CX prg w) 3 T.f_check_height T.fd_check_height P_check_height (sp_check_height T.c_BadHeight) := by
  refine T.F_check_height.okX sc_check_height (fun vs H Q E h => ?_) (fun cdv A outer s H vs Q E hr h => ?_)
  · obtain ⟨h, g, rfl, _⟩ := h
    rfl
  obtain ⟨h, g, rfl, hs, kg, kb⟩ := h
  have tk : Takes (cxOf (L2.CX prg w) prg w K mg base N_check_height "check_height" (defScope s_check_height) T.f_check_height cdv A outer s H E) (fun cls d _ H' => E cls d H') := takes_of rfl rfl rfl rfl
  refine ⟨_, (pss_one (ps_if (pt_not (pt_chain op_le op_le pe_int (pv 0) (pv 1))) (pss_one (ps_raise rfl tk (pmk_oex T.o_BadHeight T.i_BadHeight T.t_BadHeight (ok_BadHeight_init T) (hr.mono (by decide)) T.b_BadHeight_init .nil passN (by rfl) T.m_BadHeight (pa_cons (pv 0) pa_nil)))) pss_nil)), ?_⟩
  have bad : ¬ (0 ≤ h ∧ h ≤ g) → _ := fun hb => raise_fld (C := T.c_BadHeight) (fld := "height") (n := h) (H1 := H) (Q := E) (log_small hs (by decide)) fun H2 d S2 hd e => kb hb H2 d S2 hd e
  refine ⟨_, rfl, _, _, rfl, rfl, decide (0 ≤ h), rfl, ?_⟩
  by_cases h0 : 0 ≤ h
  · rw [decide_eq_true h0]
    refine iteT ⟨_, rfl, _, _, rfl, rfl, decide (h ≤ g), rfl, ?_⟩
    by_cases h1 : h ≤ g
    · rw [decide_eq_true h1]
      exact iteF (kg ⟨h0, h1⟩)
    · rw [decide_eq_false h1]
      exact iteT ⟨_, rfl, by show 1 ≤ 1000; decide, bad fun z => h1 z.2⟩
  · rw [decide_eq_false h0]
    refine iteF ⟨false, rfl, ?_⟩
    exact iteT ⟨_, rfl, by show 1 ≤ 1000; decide, bad fun z => h0 z.1⟩
end
end Rz

namespace Rz
open PySem PySem.Spec PyProof.Rows L2
/-- the heights that were passed, or none -/
def HtsArg (H : Hp) (z : Str) (ns : List Int) (hv : V) : Prop := (hv = .non ∧ ns = List.replicate z.length 0) ∨ ∃ l, hv = .ref l ∧ H l = some (.lst (ns.map V.int)) ∧ ns.length ≤ 1000000 ∧ ∀ n ∈ ns, n.natAbs < 2 ^ 64
def sp_Row_init (cB cU cH cR : Addr) : Sp := fun vs H Q E => ∃ (p dx : Addr) (z : Str) (hv : V) (ns : List Int), vs = [.ref p, .str z, hv] ∧ z.length ≤ 1000000 ∧ H p = some (.ins cR dx []) ∧ HtsArg H z ns hv ∧
  (match rr z ns with
    | .sign i => ∀ H' d, But [p] H H' → H d = none → H' d = some (.xd [("at", .int (i : Nat))]) → E (.ref cB) (some d) H'
    | .uneven => ∀ H', But [p] H H' → E (.ref cU) none H'
    | .height n => ∀ H' d, But [p] H H' → H d = none → H' d = some (.xd [("height", .int n)]) → E (.ref cH) (some d) H'
    | .row => ∀ H' l, But [p] H H' → H l = none → RAt cR H' p l (z.cps.toList.zip ns) → Q .non H')
section
variable {w : World} {K : PySem.W.Frag} {mg : Str → Option Value} {base : Heap}
theorem sc_Row_init : FnScope N_Row_init P_Row_init (defScope s_Row_init) := ⟨rfl, rfl, rfl, by decide +kernel, rfl, by decide +kernel, by decide +kernel⟩
theorem ok_Row_init (T : Txt K mg) : FnOk prg w K mg base (L2.CX prg w) 4 T.f_Row_init T.fd_Row_init P_Row_init (sp_Row_init T.c_BadSign T.c_Uneven T.c_BadHeight T.c_Row) := by
  refine T.D_Row_init.ok sc_Row_init (fun vs H Q E h => ?_) (fun cdv A outer s H vs Q E hr h => ?_)
  · obtain ⟨p, dx, z, hv, ns, rfl, _⟩ := h
    rfl
  obtain ⟨p, dx, z, hv, ns, rfl, hz, hp, hA, k⟩ := h
  have nd := sc_Row_init.nd
  obtain ⟨tG, k_GREATEST_HEIGHT⟩ := T.k_GREATEST_HEIGHT
  have tk : Takes (cxOf (L2.CX prg w) prg w K mg base N_Row_init "Row.__init__" (defScope s_Row_init) T.f_Row_init cdv A outer s H E) (fun cls d _ H' => E cls d H') := takes_of rfl rfl rfl rfl
  refine ⟨_, (pss_cons (ps_set (i := 3) nd rfl (Or.inl rfl) (pe_fn (ok_decoded T) (hr.mono (by decide)) (by rfl) T.m_decoded T.F_decoded.kp T.b_decoded .nil (passAt tk) (pa_cons (pv 1) pa_nil)))
    (pss_cons (ps_expr (pe_fn (ok_check_text T) (hr.mono (by decide)) (by rfl) T.m_check_text T.F_check_text.kp T.b_check_text .nil (passAt tk) (pa_cons (pv 3) pa_nil)))
    (C8.pss_cut (ps_if (pt_cmp (pc_isN (pv 2)) rfl) (pss_one (ps_set (i := 2) nd rfl (Or.inl rfl) (pe_op op_rep (pe_lst (pa_cons pe_int pa_nil)) (pe_callB call_len_str (by rfl) T.n_len PySem.boot_len (pa_cons (pv 3) pa_nil))))) pss_nil)
    (pss_cons (ps_if (pt_cmpR op_ne (pe_callB call_len_seq (by rfl) T.n_len PySem.boot_len (pa_cons (pv 2) pa_nil)) (pe_callB call_len_str (by rfl) T.n_len PySem.boot_len (pa_cons (pv 3) pa_nil)) (nomark _)) (pss_one (ps_raise rfl tk (pmk_own PySem.F.excBase_ValueError T.o_Uneven T.m_Uneven T.kp_Uneven (raises_own T.r_Uneven T.t_Uneven) rfl))) pss_nil)
    (pss_cons (ps_for (passes_of rfl) rfl (pi_list (pv 2)) (pg_name (i := 4) nd rfl (Or.inl rfl))
      (pss_one (ps_expr (pe_fn (ok_check_height T) (hr.mono (by decide)) (by rfl) T.m_check_height T.F_check_height.kp T.b_check_height .nil (passAt tk) (pa_cons (pv 4) (pa_cons (pe_glob (v := .int 9) (by rfl) k_GREATEST_HEIGHT ⟨_, rfl⟩) pa_nil))))))
    (pss_one (ps_fld (pv 0) (pe_listZip (by rfl) (pa_cons (pv 3) (pa_cons (pv 2) pa_nil)) (by rfl) T.n_list (by decide +kernel) (by rfl) T.n_zip) rfl))))))), ?_⟩
  have hzl : z.length ≤ sizeLine := by rw [sizeLine_eq]; omega
  refine ⟨_, rfl, z, rfl, ?_⟩
  refine ⟨_, rfl, z, rfl, hz, fun f1 H1 S1 => ?_, fun i f1 H1 d S1 hd e => ?_⟩
  rotate_left
  · unfold rr at k
    rw [f1] at k
    exact k H1 d (But.of S1) hd e
  have k2 : (match (if ns.length ≠ z.length then RR.uneven else match ns.find? badH with
      | some n => RR.height n
      | none => RR.row) with
    | .sign i => ∀ H' d, But [p] H H' → H d = none → H' d = some (.xd [("at", .int (i : Nat))]) → E (.ref T.c_BadSign) (some d) H'
    | .uneven => ∀ H', But [p] H H' → E (.ref T.c_Uneven) none H'
    | .height n => ∀ H' d, But [p] H H' → H d = none → H' d = some (.xd [("height", .int n)]) → E (.ref T.c_BadHeight) (some d) H'
    | .row => ∀ H' l, But [p] H H' → H l = none → RAt T.c_Row H' p l (z.cps.toList.zip ns) → Q .non H') := by
    unfold rr at k
    rw [f1] at k
    exact k
  clear k
  refine ⟨fun σ H' => ∃ l : Addr, σ = [some (.ref p), some (.str z), some (.ref l), some (.str z), none] ∧ Same H H' ∧ H' l = some (.lst (ns.map V.int)) ∧ ns.length ≤ 1000000 ∧ ∀ n ∈ ns, n.natAbs < 2 ^ 64, ?_, ?_⟩
  · rcases hA with ⟨rfl, rfl⟩ | ⟨l, rfl, hl, hn, hb⟩
    · refine ⟨_, rfl, _, rfl, iteT ?_⟩
      refine ⟨by decide, fun q hq => ⟨_, rfl, z, rfl, hzl, q, _, _, rfl, rfl, upd_same, by omega, by omega, by simpa using hzl, fun l hl => ?_⟩⟩
      have S2 := Rz.Same.new (o := .lst [.int 0]) S1 hq
      refine ⟨l, rfl, Rz.Same.new S2 hl, ?_, by rw [List.length_replicate]; exact hz, fun n hn => ?_⟩
      · rw [upd_same, Int.toNat_natCast]
        congr 2
        generalize z.length = m
        induction m with
        | zero => rfl
        | succ m ih => rw [List.replicate_succ, List.flatten_cons, ih]; rfl
      · rw [(List.mem_replicate.mp hn).2]
        decide
    · refine ⟨_, rfl, _, rfl, iteF ?_⟩
      exact ⟨l, rfl, S1, S1 _ _ hl, hn, hb⟩
  rintro σ H2 ⟨l, rfl, S2, hl, hn, hb⟩
  refine ⟨_, rfl, l, _, rfl, .inl (SqL.of hl), _, rfl, z, rfl, hzl, rfl, _, rfl, ?_⟩
  rw [List.length_map]
  refine ite2 (fun hd => ?_) (fun hd => ?_)
  · have hne : ns.length ≠ z.length := fun e => by
      rw [e] at hd
      simp at hd
    rw [if_pos hne] at k2
    exact k2 H2 (But.of S2)
  have heq : ns.length = z.length := by
    have h2 : (ns.length : Int) = z.length := by
      have := hd
      simpa using this
    omega
  rw [if_neg (by simp [heq])] at k2
  refine ⟨_, rfl, l, rfl, ⟨_, SqL.of hl⟩, for_list (K := K) (a := l) (xs := ns.map V.int) (fun i σ H' => ∃ v4 : Option V, σ = [some (.ref p), some (.str z), some (.ref l), some (.str z), v4] ∧ H' = H2 ∧ ∀ j n, j < i → ns[j]? = some n → badH n = false)
    ⟨none, rfl, rfl, fun j n hj => absurd hj (Nat.not_lt_zero j)⟩ (fun i σ H' _ ⟨_, _, e, _⟩ => by rw [e]; exact SqL.of hl) ?_ ?_⟩
  · rintro i y σ H' hi ⟨v4, rfl, rfl, hg⟩
    obtain ⟨n, hn2, rfl⟩ := mapi_get hi
    refine ⟨_, rfl, n, 9, rfl, hb n (List.mem_of_getElem? hn2), fun ok => ?_, fun bad H3 d S3 hd3 e3 => ?_⟩
    · refine ⟨_, rfl, rfl, fun j m hj hm => ?_⟩
      by_cases e : j < i
      · exact hg j m e hm
      · have e2 : j = i := by omega
        subst e2
        rw [hn2] at hm
        cases hm
        unfold badH
        simp
        omega
    · have hf : ns.find? badH = some n := by
        rw [List.find?_eq_some_iff_getElem]
        refine ⟨by unfold badH; simp; omega, i, (List.getElem?_eq_some_iff.mp hn2).1, (List.getElem?_eq_some_iff.mp hn2).2, fun j hj => ?_⟩
        have := hg j _ hj (List.getElem?_eq_getElem (Nat.lt_trans hj (List.getElem?_eq_some_iff.mp hn2).1))
        simp [this]
      rw [hf] at k2
      exact k2 H3 d (But.of (S2.trans S3)) (S2.free hd3) e3
  · rintro σ H' ⟨v4, rfl, rfl, hg⟩
    have hf : ns.find? badH = none := by
      rw [List.find?_eq_none]
      intro n hn2
      obtain ⟨j, hj, e⟩ := List.getElem_of_mem hn2
      have := hg j n (by simpa using hj) (by rw [List.getElem?_eq_getElem hj, e])
      simp [this]
    rw [hf] at k2
    refine ⟨_, rfl, _, rfl, z, l, _, rfl, SqL.of hl, by rw [List.length_map]; exact heq.symm, hzl, fun H3 q ts S3 hq hts nq eq hP => ?_⟩
    have hp3 := (S2.trans S3) _ _ hp
    refine ⟨_, rfl, p, _, dx, _, rfl, hp3, T.cl_Row, T.na_Row__pairs, by show 0 < 1000; decide, ?_⟩
    have S23 := S2.trans S3
    refine k2 _ q ((But.of S23).upd (.inl (by simp))) (S2.free hq) ⟨dx, upd_same, ts, ?_, ?_⟩
    · rw [upd_ne (fun z => by rw [z, hp3] at eq; cases eq)]
      exact eq
    · exact (zkv_pairs hP).keep (Tups.upd (fun _ _ e => e) fun xs e => by rw [hp3] at e; cases e)
end
end Rz

namespace Rz
open PySem PySem.Spec PyProof.Rows L2
/-- what Row(z, ..) asks for where it can be made -/
theorem row_new {cB cU cH cR : Addr} {H : Hp} {Q : VK} {E : XK} {z : Str} {hv : V} {ns : List Int} {vs dvs : List V} (e : vs ++ dvs = [.str z, hv]) (hz : z.length ≤ 1000000) (hA : HtsArg H z ns hv) (hrr : rr z ns = .row)
    (k : ∀ (H' : Hp) (x l : Addr), Same H H' → H x = none → H l = none → RAt cR H' x l (z.cps.toList.zip ns) → Q (.ref x) H') : MkR cR (sp_Row_init cB cU cH cR) dvs E vs H Q := by
  rw [mkR_eq, e]
  intro x dx hx hdx ndx
  have hA2 : HtsArg (upd (upd H dx (.own x)) x (.ins cR dx [])) z ns hv := by
    rcases hA with h | ⟨l, e, hl, r⟩
    · exact .inl h
    · exact .inr ⟨l, e, by rw [upd_ne (ne_of_none hl hx), upd_ne (ne_of_none hl hdx)]; exact hl, r⟩
  refine ⟨x, dx, z, hv, ns, rfl, hz, upd_same, hA2, ?_⟩
  rw [hrr]
  intro H4 m B hm hR
  refine ⟨rfl, k H4 x m (fun b o e => ?_) hx ?_ hR⟩
  · exact B b o (by have := ne_of_none e hx; simpa using this) (by rw [upd_ne (ne_of_none e hx), upd_ne (ne_of_none e hdx)]; exact e)
  · cases q : H m with
    | none => rfl
    | some o =>
      rw [upd_ne (ne_of_none q hx), upd_ne (ne_of_none q hdx), q] at hm
      cases hm
theorem rr_empty : rr "" [] = .row := rfl
end Rz

namespace Rz
open PySem PySem.Spec PyProof.Rows L2
def sp_Row_signs (cR : Addr) : Sp := fun vs H Q _ => ∃ (p l : Addr) (ps : List Pr), vs = [.ref p] ∧ RAt cR H p l ps ∧ ps.length ≤ 1000000 ∧ ∀ H', Same H H' → Q (.str (tx ps)) H'
section
variable {w : World} {K : PySem.W.Frag} {mg : Str → Option Value} {base : Heap}
theorem sc_Row_signs : FnScope N_Row_signs P_Row_signs (defScope s_Row_signs) := ⟨rfl, rfl, rfl, by decide +kernel, rfl, by decide +kernel, by decide +kernel⟩
theorem ok_Row_signs (T : Txt K mg) : FnOk prg w K mg base (L2.CX prg w) 1 T.f_Row_signs T.fd_Row_signs P_Row_signs (sp_Row_signs T.c_Row) := by
  refine Rz.Fun.okN T.F_Row_signs sc_Row_signs (fun vs H Q E h => ?_) (fun cdv A outer s H vs Q E hr h => ?_)
  · obtain ⟨p, l, ps, rfl, _⟩ := h
    rfl
  obtain ⟨p, l, ps, rfl, ⟨dx, hp, hL⟩, hz, k⟩ := h
  have nd := sc_Row_signs.nd
  refine ⟨_, (pss_one (ps_ret (pe_join pe_str (pe_lc (own := [("sign", 1), ("_", 2)]) (g := gTup K 2 (gCons (gName 1) (gCons (gName 2) gNil))) (tt := tYes) rfl nd (pi_list (pe_fld (pv 0) rfl)) (blkOk_by (N := N_Row_signs) (sc := defScope s_Row_signs) (by decide +kernel)) (fun _ _ _ _ _ => (pg_tup rfl (pgs_cons (pg_name (i := 1) nd rfl (Or.inl rfl)) (pgs_cons (pg_name (i := 2) nd rfl (Or.inl rfl)) pgs_nil)))) (fun _ _ _ _ _ => pts_nil) (fun _ _ _ _ _ => (pv 1)))))), ?_⟩
  obtain ⟨ts, hl, hP⟩ := id hL
  refine ⟨⟨_, rfl⟩, _, rfl, p, _, dx, _, _, rfl, hp, T.cl_Row, T.na_Row__pairs, rfl, l, rfl, ⟨_, SqL.of hl⟩, fun D hD => lc_pairs (K := K) (l := l) (ps := ps) (fun q => .str ⟨#[q.1]⟩) hL (by rw [sizeLine_eq]; omega) hD ?_ ?_⟩
  · intro t q H2 Q2 _ S e c
    exact ⟨t, _, rfl, SqT.of e, rfl, _, _, rfl, _, _, rfl, rfl, rfl, _, rfl, c _ (Same.refl _)⟩
  · intro H2 S e
    have e2 : ps.map (fun q => V.str ⟨#[q.1]⟩) = (ps.map fun q => (⟨#[q.1]⟩ : Str)).map V.str := by rw [List.map_map]; rfl
    rw [e2] at e
    refine ⟨_, D, _, rfl, rfl, .inl (SqL.of e), ?_, ?_⟩
    · rw [sum_ones (fun y hy => by obtain ⟨q, _, rfl⟩ := List.mem_map.mp hy; rfl), List.length_map]
      show _ + _ * 0 ≤ _
      omega
    · rw [join_signs]
      exact k H2 S
end
end Rz

namespace Rz
open PySem PySem.Spec PyProof.Rows L2
def sp_Row_heights (cR : Addr) : Sp := fun vs H Q _ => ∃ (p l : Addr) (ps : List Pr), vs = [.ref p] ∧ RAt cR H p l ps ∧ ps.length ≤ 1000000 ∧ ∀ H' d, Same H H' → H d = none → H' d = some (.lst ((hts ps).map V.int)) → Q (.ref d) H'
section
variable {w : World} {K : PySem.W.Frag} {mg : Str → Option Value} {base : Heap}
theorem sc_Row_heights : FnScope N_Row_heights P_Row_heights (defScope s_Row_heights) := ⟨rfl, rfl, rfl, by decide +kernel, rfl, by decide +kernel, by decide +kernel⟩
theorem ok_Row_heights (T : Txt K mg) : FnOk prg w K mg base (L2.CX prg w) 1 T.f_Row_heights T.fd_Row_heights P_Row_heights (sp_Row_heights T.c_Row) := by
  refine Rz.Fun.okN T.F_Row_heights sc_Row_heights (fun vs H Q E h => ?_) (fun cdv A outer s H vs Q E hr h => ?_)
  · obtain ⟨p, l, ps, rfl, _⟩ := h
    rfl
  obtain ⟨p, l, ps, rfl, ⟨dx, hp, hL⟩, hz, k⟩ := h
  have nd := sc_Row_heights.nd
  refine ⟨_, (pss_one (ps_ret (pe_lc (own := [("_", 1), ("height", 2)]) (g := gTup K 2 (gCons (gName 1) (gCons (gName 2) gNil))) (tt := tYes) rfl nd (pi_list (pe_fld (pv 0) rfl)) (blkOk_by (N := N_Row_heights) (sc := defScope s_Row_heights) (by decide +kernel)) (fun _ _ _ _ _ => (pg_tup rfl (pgs_cons (pg_name (i := 1) nd rfl (Or.inl rfl)) (pgs_cons (pg_name (i := 2) nd rfl (Or.inl rfl)) pgs_nil)))) (fun _ _ _ _ _ => pts_nil) (fun _ _ _ _ _ => (pv 2))))), ?_⟩
  obtain ⟨ts, hl, hP⟩ := id hL
  refine ⟨_, rfl, p, _, dx, _, _, rfl, hp, T.cl_Row, T.na_Row__pairs, rfl, l, rfl, ⟨_, SqL.of hl⟩, fun D hD => lc_pairs (K := K) (l := l) (ps := ps) (fun q => .int q.2) hL (by rw [sizeLine_eq]; omega) hD ?_ ?_⟩
  · intro t q H2 Q2 _ S e c
    exact ⟨t, _, rfl, SqT.of e, rfl, _, _, rfl, _, _, rfl, rfl, rfl, _, rfl, c _ (Same.refl _)⟩
  · intro H2 S e
    refine k H2 D S hD ?_
    rw [e]
    unfold hts
    rw [List.map_map]
    rfl
end
end Rz

namespace Rz
open PySem PySem.Spec PyProof.Rows L2
def sp_Row_len (cR : Addr) : Sp := fun vs H Q _ => ∃ (p l : Addr) (ps : List Pr), vs = [.ref p] ∧ RAt cR H p l ps ∧ Q (.int (ps.length : Nat)) H
section
variable {w : World} {K : PySem.W.Frag} {mg : Str → Option Value} {base : Heap}
theorem sc_Row_len : FnScope N_Row_len P_Row_len (defScope s_Row_len) := ⟨rfl, rfl, rfl, by decide +kernel, rfl, by decide +kernel, by decide +kernel⟩
theorem ok_Row_len (T : Txt K mg) : FnOk prg w K mg base (L2.CX prg w) 1 T.f_Row_len T.fd_Row_len P_Row_len (sp_Row_len T.c_Row) := by
  refine Rz.Fun.okN T.F_Row_len sc_Row_len (fun vs H Q E h => ?_) (fun cdv A outer s H vs Q E hr h => ?_)
  · obtain ⟨p, l, ps, rfl, _⟩ := h
    rfl
  obtain ⟨p, l, ps, rfl, ⟨dx, hp, ts, hl, hP⟩, k⟩ := h
  refine ⟨_, (pss_one (ps_ret (pe_callB call_len_seq (by rfl) T.n_len PySem.boot_len (pa_cons (pe_fld (pv 0) rfl) pa_nil)))), ?_⟩
  refine ⟨_, rfl, p, _, dx, _, _, rfl, hp, T.cl_Row, T.na_Row__pairs, rfl, l, _, rfl, .inl (SqL.of hl), ?_⟩
  rw [List.length_map, hP.length]
  exact k
end
end Rz

namespace Rz
open PySem PySem.Spec PyProof.Rows L2
/-- an iterator over the row's list -/
def sp_Row_iter (cR : Addr) : Sp := fun vs H Q _ => ∃ (p l : Addr) (ps : List Pr), vs = [.ref p] ∧ RAt cR H p l ps ∧ ∀ it, H it = none → Q (.ref it) (upd H it (ItO l it 0))
section
variable {w : World} {K : PySem.W.Frag} {mg : Str → Option Value} {base : Heap}
theorem sc_Row_iter : FnScope N_Row_iter P_Row_iter (defScope s_Row_iter) := ⟨rfl, rfl, rfl, by decide +kernel, rfl, by decide +kernel, by decide +kernel⟩
theorem ok_Row_iter (T : Txt K mg) : FnOk prg w K mg base (L2.CX prg w) 1 T.f_Row_iter T.fd_Row_iter P_Row_iter (sp_Row_iter T.c_Row) := by
  refine Rz.Fun.okN T.F_Row_iter sc_Row_iter (fun vs H Q E h => ?_) (fun cdv A outer s H vs Q E hr h => ?_)
  · obtain ⟨p, l, ps, rfl, _⟩ := h
    rfl
  obtain ⟨p, l, ps, rfl, ⟨dx, hp, ts, hl, hP⟩, k⟩ := h
  refine ⟨_, (pss_one (ps_ret (pe_callB call_iterL (by rfl) T.n_iter (by decide +kernel) (pa_cons (pe_fld (pv 0) rfl) pa_nil)))), ?_⟩
  exact ⟨_, rfl, p, _, dx, _, _, rfl, hp, T.cl_Row, T.na_Row__pairs, rfl, l, _, rfl, SqL.of hl, k⟩
end
end Rz

namespace Rz
open PySem PySem.Spec PyProof.Rows L2
/-- the greatest height, 0 for none -/
def mostH (ps : List Pr) : Int := (hts ps).foldr max 0
theorem foldr_most : ∀ {ns : List Int} {m : Int}, m ∈ ns → (∀ y ∈ ns, y ≤ m) → 0 ≤ m → ns.foldr max 0 = m
  | n :: ns, m, hm, hall, h0 => by
    have hle : ∀ {xs : List Int}, (∀ y ∈ xs, y ≤ m) → xs.foldr max 0 ≤ m := fun {xs} h => by
      induction xs with
      | nil => exact h0
      | cons x xs ih =>
        have h1 := h x List.mem_cons_self
        have h2 := ih fun y hy => h y (List.mem_cons_of_mem _ hy)
        show max x (xs.foldr max 0) ≤ m
        omega
    have hge : ∀ {xs : List Int}, m ∈ xs → m ≤ xs.foldr max 0 := fun {xs} h => by
      induction xs with
      | nil => cases h
      | cons x xs ih =>
        show m ≤ max x (xs.foldr max 0)
        rcases List.mem_cons.mp h with e | e
        · omega
        · have := ih e
          omega
    have a := hle hall
    have b := hge hm
    omega
theorem most_of {ps : List Pr} {m : Int} (hm : m ∈ hts ps) (hall : ∀ y ∈ hts ps, y ≤ m) (h : GoodR ps) : m = mostH ps := by
  obtain ⟨q, hq, e⟩ := List.mem_map.mp hm
  have := (h q hq).2
  exact (foldr_most hm hall (by omega)).symm
theorem most_zero {ps : List Pr} {m : Int} (hm : m ∈ 0 :: hts ps) (hall : ∀ y ∈ 0 :: hts ps, y ≤ m) : m = mostH ps := by
  have h := foldr_most hm hall (hall 0 List.mem_cons_self)
  have e : (0 :: hts ps).foldr max 0 = max 0 (mostH ps) := rfl
  have t0 : 0 ≤ mostH ps := by
    unfold mostH
    generalize hts ps = ns
    induction ns with
    | nil => exact Int.le_refl 0
    | cons x xs ih =>
      show 0 ≤ max x (xs.foldr max 0)
      omega
  rw [e] at h
  omega
def sp_Row_abs (cR : Addr) : Sp := fun vs H Q _ => ∃ (p l : Addr) (ps : List Pr), vs = [.ref p] ∧ RAt cR H p l ps ∧ ps.length ≤ 1000000 ∧ GoodR ps ∧ ∀ H', Same H H' → Q (.int (mostH ps)) H'
section
variable {w : World} {K : PySem.W.Frag} {mg : Str → Option Value} {base : Heap}
theorem sc_Row_abs : FnScope N_Row_abs P_Row_abs (defScope s_Row_abs) := ⟨rfl, rfl, rfl, by decide +kernel, rfl, by decide +kernel, by decide +kernel⟩
theorem ok_Row_abs (T : Txt K mg) : FnOk prg w K mg base (L2.CX prg w) 4 T.f_Row_abs T.fd_Row_abs P_Row_abs (sp_Row_abs T.c_Row) := by
  refine Rz.Fun.okN T.F_Row_abs sc_Row_abs (fun vs H Q E h => ?_) (fun cdv A outer s H vs Q E hr h => ?_)
  · obtain ⟨p, l, ps, rfl, _⟩ := h
    rfl
  obtain ⟨p, l, ps, rfl, hR, hz, hg, k⟩ := h
  refine ⟨_, (pss_one (ps_ret (pe_callBK (call_maxDef (by rfl)) (by rfl) T.n_max (by decide +kernel) (pa_cons (pe_pr (pv 0) T.cl_Row T.M_Row_heights (ok_Row_heights T) (hr.mono (by decide)) T.b_Row_heights passN) pa_nil) (pk_cons pe_int pk_nil)))), ?_⟩
  obtain ⟨dx, hp, hL⟩ := id hR
  refine ⟨_, rfl, p, dx, _, rfl, hp, p, l, ps, rfl, hR, hz, fun H1 d S1 hd e1 => ?_⟩
  refine ⟨d, hts ps, 0, rfl, rfl, SqL.of e1, fun e0 => ?_, fun m hm hall => ?_⟩
  · have t : mostH ps = 0 := by
      unfold mostH
      rw [e0]
      rfl
    rw [← t]
    exact k H1 S1
  · rw [most_of hm hall hg]
    exact k H1 S1
end
end Rz

namespace Rz
open PySem PySem.Spec PyProof.Rows L2
def sp_Row_check_place (cN cR : Addr) : Sp := fun vs H Q E => ∃ (p l : Addr) (ps : List Pr) (i : Int), vs = [.ref p, .int i] ∧ RAt cR H p l ps ∧ ps.length ≤ 1000000 ∧ i.natAbs < 2 ^ 64 ∧ (0 ≤ i ∧ i < (ps.length : Int) → Q .non H) ∧
  (¬ (0 ≤ i ∧ i < (ps.length : Int)) → ∀ H' d, Same H H' → H d = none → H' d = some (.xd [("at", .int i)]) → E (.ref cN) (some d) H')
section
variable {w : World} {K : PySem.W.Frag} {mg : Str → Option Value} {base : Heap}
theorem sc_Row_check_place : FnScope N_Row_check_place P_Row_check_place (defScope s_Row_check_place) := ⟨rfl, rfl, rfl, by decide +kernel, rfl, by decide +kernel, by decide +kernel⟩
theorem ok_Row_check_place (T : Txt K mg) : FnOk prg w K mg base (L2.CX prg w) 3 T.f_Row_check_place T.fd_Row_check_place P_Row_check_place (sp_Row_check_place T.c_NoPlace T.c_Row) := by
  refine T.F_Row_check_place.okX sc_Row_check_place (fun vs H Q E h => ?_) (fun cdv A outer s H vs Q E hr h => ?_)
  · obtain ⟨p, l, ps, i, rfl, _⟩ := h
    rfl
  obtain ⟨p, l, ps, i, rfl, ⟨dx, hp, ts, hl, hP⟩, hz, hi, kg, kb⟩ := h
  have tk : Takes (cxOf (L2.CX prg w) prg w K mg base N_Row_check_place "Row._check_place" (defScope s_Row_check_place) T.f_Row_check_place cdv A outer s H E) (fun cls d _ H' => E cls d H') := takes_of rfl rfl rfl rfl
  refine ⟨_, (pss_one (ps_if (pt_not (pt_chain op_le op_lt pe_int (pv 1) (pe_callB call_len_seq (by rfl) T.n_len PySem.boot_len (pa_cons (pe_fld (pv 0) rfl) pa_nil)))) (pss_one (ps_raise rfl tk (pmk_oex T.o_NoPlace T.i_NoPlace T.t_NoPlace (ok_NoPlace_init T) (hr.mono (by decide)) T.b_NoPlace_init .nil passN (by rfl) T.m_NoPlace (pa_cons (pv 1) pa_nil)))) pss_nil)), ?_⟩
  have bad : ¬ (0 ≤ i ∧ i < (ps.length : Int)) → _ := fun hb => raise_fld (C := T.c_NoPlace) (fld := "at") (n := i) (H1 := H) (Q := E) (log_small hi (by decide)) fun H2 d S2 hd e => kb hb H2 d S2 hd e
  refine ⟨_, rfl, _, _, rfl, rfl, decide (0 ≤ i), rfl, ?_⟩
  by_cases h0 : 0 ≤ i
  · rw [decide_eq_true h0]
    refine iteT ⟨_, rfl, p, _, dx, _, _, rfl, hp, T.cl_Row, T.na_Row__pairs, rfl, l, _, rfl, .inl (SqL.of hl), _, _, rfl, rfl, decide (i < ((ts.map V.ref).length : Int)), rfl, ?_⟩
    rw [List.length_map, hP.length]
    by_cases h1 : i < (ps.length : Int)
    · rw [decide_eq_true h1]
      exact iteF (kg ⟨h0, h1⟩)
    · rw [decide_eq_false h1]
      exact iteT ⟨_, rfl, by show 1 ≤ 1000; decide, bad fun z => h1 z.2⟩
  · rw [decide_eq_false h0]
    refine iteF ⟨false, rfl, ?_⟩
    exact iteT ⟨_, rfl, by show 1 ≤ 1000; decide, bad fun z => h0 z.1⟩
end
end Rz

namespace Rz
open PySem PySem.Spec PyProof.Rows L2
/-- a new row of the pairs -/
def sp_row_of (cR : Addr) : Sp := fun vs H Q _ => ∃ (l : Addr) (ps : List Pr), vs = [.ref l] ∧ LAt H l ps ∧ GoodR ps ∧ ps.length ≤ 100000 ∧ ∀ H' p m, Same H H' → H p = none → H m = none → RAt cR H' p m ps → Q (.ref p) H'
section
variable {w : World} {K : PySem.W.Frag} {mg : Str → Option Value} {base : Heap}
theorem sc__row_of : FnScope N__row_of P__row_of (defScope s__row_of) := ⟨rfl, rfl, rfl, by decide +kernel, rfl, by decide +kernel, by decide +kernel⟩
theorem ok__row_of (T : Txt K mg) : FnOk prg w K mg base (L2.CX prg w) 6 T.f__row_of T.fd__row_of P__row_of (sp_row_of T.c_Row) := by
  refine Rz.Fun.okN T.F__row_of sc__row_of (fun vs H Q E h => ?_) (fun cdv A outer s H vs Q E hr h => ?_)
  · obtain ⟨l, ps, rfl, _⟩ := h
    rfl
  obtain ⟨l, ps, rfl, hL, hg, hz, k⟩ := h
  have nd := sc__row_of.nd
  obtain ⟨ds, vd, bd⟩ := bd_Row_init_3 T
  cases vd
  refine ⟨_, (pss_cons (ps_set (i := 3) nd rfl (Or.inl rfl) (pe_join pe_str (pe_lc (own := [("sign", 1), ("_", 2)]) (g := gTup K 2 (gCons (gName 1) (gCons (gName 2) gNil))) (tt := tYes) rfl nd (pi_list (pv 0)) (blkOk_by (N := N__row_of) (sc := defScope s__row_of) (by decide +kernel)) (fun _ _ _ _ _ => (pg_tup rfl (pgs_cons (pg_name (i := 1) nd rfl (Or.inl rfl)) (pgs_cons (pg_name (i := 2) nd rfl (Or.inl rfl)) pgs_nil)))) (fun _ _ _ _ _ => pts_nil) (fun _ _ _ _ _ => (pv 1)))))
    (pss_one (ps_ret (pe_mk ⟨T.mk_Row, T.M_Row_init.at_, T.M_Row_init.fn, T.kp_Row⟩ (ok_Row_init T) (hr.mono (by decide)) (by rfl) T.m_Row bd .nil (fun _ => atN _) (pa_cons (pv 3) (pa_cons (pe_lc (own := [("_", 2), ("height", 4)]) (g := gTup K 2 (gCons (gName 2) (gCons (gName 4) gNil))) (tt := tYes) rfl nd (pi_list (pv 0)) (blkOk_by (N := N__row_of) (sc := defScope s__row_of) (by decide +kernel)) (fun _ _ _ _ _ => (pg_tup rfl (pgs_cons (pg_name (i := 2) nd rfl (Or.inl rfl)) (pgs_cons (pg_name (i := 4) nd rfl (Or.inl rfl)) pgs_nil)))) (fun _ _ _ _ _ => pts_nil) (fun _ _ _ _ _ => (pv 4))) pa_nil)))))), ?_⟩
  obtain ⟨ts, hl, hP⟩ := id hL
  have zs : ps.length ≤ sizeLine := by rw [sizeLine_eq]; omega
  refine ⟨⟨_, rfl⟩, _, rfl, l, rfl, ⟨_, SqL.of hl⟩, fun D hD => lc_pairs (K := K) (l := l) (ps := ps) (fun q => .str ⟨#[q.1]⟩) hL zs hD ?_ ?_⟩
  · intro t q H2 Q2 _ S e c
    exact ⟨t, _, rfl, SqT.of e, rfl, _, _, rfl, _, _, rfl, rfl, rfl, _, rfl, c _ (Same.refl _)⟩
  intro H2 S2 e2
  have e2' : ps.map (fun q => V.str ⟨#[q.1]⟩) = (ps.map fun q => (⟨#[q.1]⟩ : Str)).map V.str := by rw [List.map_map]; rfl
  rw [e2'] at e2
  refine ⟨_, D, _, rfl, rfl, .inl (SqL.of e2), ?_, ?_⟩
  · rw [sum_ones (fun y hy => by obtain ⟨q, _, rfl⟩ := List.mem_map.mp hy; rfl), List.length_map]
    show _ + _ * 0 ≤ _
    omega
  rw [join_signs]
  have hL2 := hL.same S2
  refine ⟨_, rfl, _, rfl, l, rfl, ⟨_, SqL.of (S2 _ _ hl)⟩, fun D2 hD2 => lc_pairs (K := K) (l := l) (ps := ps) (fun q => .int q.2) hL2 zs hD2 ?_ ?_⟩
  · intro t q H3 Q2 _ S e c
    exact ⟨t, _, rfl, SqT.of e, rfl, _, _, rfl, _, _, rfl, rfl, rfl, _, rfl, c _ (Same.refl _)⟩
  intro H3 S3 e3
  have e3' : H3 D2 = some (.lst ((hts ps).map V.int)) := by
    rw [e3]
    unfold hts
    rw [List.map_map]
    rfl
  intro x dx hx hdx ndx
  have S03 := S2.trans S3
  have nxD : D2 ≠ x := ne_of_none e3' hx
  have ndD : D2 ≠ dx := ne_of_none e3' hdx
  have small : ∀ n ∈ hts ps, n.natAbs < 2 ^ 64 := fun n hn => by
    obtain ⟨q, hq, rfl⟩ := List.mem_map.mp hn
    have := (hg q hq).2
    omega
  refine ⟨x, dx, tx ps, _, hts ps, rfl, by rw [tx_len]; omega, upd_same, .inr ⟨D2, rfl, by rw [upd_ne nxD, upd_ne ndD]; exact e3', by rw [hts_len]; omega, small⟩, ?_⟩
  rw [rr_good hg, tx_hts_zip]
  intro H4 m B hm hR
  refine ⟨rfl, k H4 x m ?_ (S03.free hx) ?_ hR⟩
  · intro b o e
    have e1 := S03 _ _ e
    exact B b o (by have := ne_of_none e1 hx; simpa using this) (by rw [upd_ne (ne_of_none e1 hx), upd_ne (ne_of_none e1 hdx)]; exact e1)
  · cases q : H m with
    | none => rfl
    | some o =>
      have e1 := S03 _ _ q
      rw [upd_ne (ne_of_none e1 hx), upd_ne (ne_of_none e1 hdx), e1] at hm
      cases hm
end
end Rz

namespace Rz
open PySem PySem.Spec PyProof.Rows L2
/-- at a place, no slice -/
def sp_Row_getitem (cN cR : Addr) : Sp := fun vs H Q E => ∃ (p l : Addr) (ps : List Pr) (i : Int), vs = [.ref p, .int i] ∧ RAt cR H p l ps ∧ ps.length ≤ 1000000 ∧ i.natAbs < 2 ^ 64 ∧
  (0 ≤ i ∧ i < (ps.length : Int) → ∀ t pr, ps[i.toNat]? = some pr → H t = some (.tup (prV pr)) → Q (.ref t) H) ∧
  (¬ (0 ≤ i ∧ i < (ps.length : Int)) → ∀ H' d, Same H H' → H d = none → H' d = some (.xd [("at", .int i)]) → E (.ref cN) (some d) H')
section
variable {w : World} {K : PySem.W.Frag} {mg : Str → Option Value} {base : Heap}
theorem sc_Row_getitem : FnScope N_Row_getitem P_Row_getitem (defScope s_Row_getitem) := ⟨rfl, rfl, rfl, by decide +kernel, rfl, by decide +kernel, by decide +kernel⟩
theorem ok_Row_getitem (T : Txt K mg) : FnOk prg w K mg base (L2.CX prg w) 4 T.f_Row_getitem T.fd_Row_getitem P_Row_getitem (sp_Row_getitem T.c_NoPlace T.c_Row) := by
  refine T.F_Row_getitem.okX sc_Row_getitem (fun vs H Q E h => ?_) (fun cdv A outer s H vs Q E hr h => ?_)
  · obtain ⟨p, l, ps, i, rfl, _⟩ := h
    rfl
  obtain ⟨p, l, ps, i, rfl, hR, hz, hi, kg, kb⟩ := h
  have tk : Takes (cxOf (L2.CX prg w) prg w K mg base N_Row_getitem "Row.__getitem__" (defScope s_Row_getitem) T.f_Row_getitem cdv A outer s H E) (fun cls d _ H' => E cls d H') := takes_of rfl rfl rfl rfl
  refine ⟨_, (pss_cons (ps_if (pt_not (pt_val (pe_callB call_isi (by rfl) T.n_isinstance (by decide +kernel) (pa_cons (pv 1) (pa_cons (pe_bltn (v := .ty "int") (by rfl) T.n_int (by decide +kernel) rfl) pa_nil))))) pss_never pss_nil)
    (pss_cons (ps_expr (pe_mt (pv 0) T.cl_Row T.M_Row_check_place (ok_Row_check_place T) (hr.mono (by decide)) T.b_Row_check_place .nil (passAt tk) (pa_cons (pv 1) pa_nil)))
    (pss_one (ps_ret (pe_ix ix_list (pe_fld (pv 0) rfl) (pv 1) (fun _ _ => rfl)))))), ?_⟩
  obtain ⟨dx, hp, ts, hl, hP⟩ := id hR
  refine ⟨_, rfl, _, _, .type "int", .type "int", true, rfl, .ty _, .base (.int i), kit_ty (by decide +kernel), true, rfl, iteF ?_⟩
  refine ⟨_, rfl, p, dx, _, rfl, hp, rfl, _, rfl, p, l, ps, i, rfl, hR, hz, hi, fun ok => ?_, fun bad H2 d S hd e => kb bad H2 d S hd e⟩
  obtain ⟨n, rfl⟩ := Int.eq_ofNat_of_zero_le ok.1
  have hn : n < ps.length := by omega
  obtain ⟨t, ht, et⟩ := hP.nth (List.getElem?_eq_getElem hn)
  exact ⟨_, rfl, p, _, dx, _, _, rfl, hp, T.cl_Row, T.na_Row__pairs, rfl, _, rfl, l, _, _, .ref t, rfl, rfl, SqL.of hl, atI_nat (ref_nth ht), kg ok t _ (by rw [Int.toNat_natCast]; exact List.getElem?_eq_getElem hn) et⟩
end
end Rz

namespace Rz
open PySem PySem.Spec PyProof.Rows L2
/-- row[i:j] -/
def sp_Row_getitemS (cR : Addr) : Sp := fun vs H Q _ => ∃ (p l sl : Addr) (ps : List Pr) (i j : Nat), vs = [.ref p, .ref sl] ∧ RAt cR H p l ps ∧ GoodR ps ∧ ps.length ≤ 100000 ∧ H sl = some (SlO sl i j) ∧ i ≤ j ∧ j ≤ ps.length ∧
  ∀ H' r m, Same H H' → H r = none → H m = none → RAt cR H' r m ((ps.drop i).take (j - i)) → Q (.ref r) H'
section
variable {w : World} {K : PySem.W.Frag} {mg : Str → Option Value} {base : Heap}
theorem sc_Row_getitemS : FnScope N_Row_getitem P_Row_getitem (defScope s_Row_getitem) := ⟨rfl, rfl, rfl, by decide +kernel, rfl, by decide +kernel, by decide +kernel⟩
theorem ok_Row_getitemS (T : Txt K mg) : FnOk prg w K mg base (L2.CX prg w) 7 T.f_Row_getitem T.fd_Row_getitem P_Row_getitem (sp_Row_getitemS T.c_Row) := by
  refine Rz.Fun.okN T.F_Row_getitem sc_Row_getitemS (fun vs H Q E h => ?_) (fun cdv A outer s H vs Q E hr h => ?_)
  · obtain ⟨p, l, sl, ps, i, j, rfl, _⟩ := h
    rfl
  obtain ⟨p, l, sl, ps, i, j, rfl, ⟨dx, hp, ts, hl, hP⟩, hg, hz, hsl, hij, hj, k⟩ := h
  have lt := hP.length
  refine ⟨_, (pss_cons (ps_if (pt_not (pt_val (pe_callB call_isiSl (by rfl) T.n_isinstance (by decide +kernel) (pa_cons (pv 1) (pa_cons (pe_bltn (v := .ty "int") (by rfl) T.n_int (by decide +kernel) rfl) pa_nil)))))
      (pss_one (ps_ret (pe_fn (ok__row_of T) (hr.mono (by decide)) (by rfl) T.m__row_of T.F__row_of.kp T.b__row_of .nil (fun _ => atN _) (pa_cons (pe_ix ix_sliceV (pe_fld (pv 0) rfl) (pv 1) (fun _ _ => rfl)) pa_nil)))) pss_nil) pss_never), ?_⟩
  refine ⟨_, rfl, sl, (i : Int), (j : Int), .ty "int", .type "int", false, rfl, .ty _, hsl, kit_ty (by decide +kernel), false, rfl, iteT ?_⟩
  refine ⟨_, rfl, p, _, dx, _, _, rfl, hp, T.cl_Row, T.na_Row__pairs, rfl, _, rfl, l, sl, (i : Int), (j : Int), _, rfl, rfl, SqL.of hl, hsl, fun q hq => ?_⟩
  have S1 := Rz.Same.new (o := .lst (cutV (ts.map V.ref) (some (i : Int)) (some (j : Int)))) (Same.refl H) hq
  refine ⟨q, (ps.drop i).take (j - i), rfl, ⟨(ts.drop i).take (j - i), ?_, ((hP.drop i).take (j - i)).keep (Tups.of S1)⟩, fun x hx => hg x (List.mem_of_mem_drop (List.mem_of_mem_take hx)), by rw [List.length_take, List.length_drop]; omega, fun H' r n S e1 e2 R => k H' r n (S1.trans S) (S1.free e1) (S1.free e2) R⟩
  rw [upd_same, cutV_nat hij (by rw [List.length_map]; omega), List.map_take, List.map_drop]
end
end Rz

namespace Rz
open PySem PySem.Spec PyProof.Rows L2
/-- at a place, no slice -/
def sp_Row_setitem (cN cB cH cR : Addr) : Sp := fun vs H Q E => ∃ (p l t : Addr) (ps : List Pr) (i h : Int) (z : Str), vs = [.ref p, .int i, .ref t] ∧ RAt cR H p l ps ∧ H t = some (.tup [.str z, .int h]) ∧ ps.length ≤ 1000000 ∧ z.length ≤ 1000000 ∧ i.natAbs < 2 ^ 64 ∧ h.natAbs < 2 ^ 64 ∧
  (¬ (0 ≤ i ∧ i < (ps.length : Int)) → ∀ H' d, Same H H' → H d = none → H' d = some (.xd [("at", .int i)]) → E (.ref cN) (some d) H') ∧
  (0 ≤ i ∧ i < (ps.length : Int) → (isSg z = false → ∀ H' d, Same H H' → H d = none → H' d = some (.xd [("at", .int 0)]) → E (.ref cB) (some d) H') ∧
    (isSg z = true → (¬ (0 ≤ h ∧ h ≤ 9) → ∀ H' d, Same H H' → H d = none → H' d = some (.xd [("height", .int h)]) → E (.ref cH) (some d) H') ∧
      (0 ≤ h ∧ h ≤ 9 → ∀ H' c, z = ⟨#[c]⟩ → oddC c = false → But [l] H H' → RAt cR H' p l (ps.set i.toNat (c, h)) → Q .non H')))
theorem ixN_in {n : Nat} {i : Int} (h0 : 0 ≤ i) (h1 : i < (n : Int)) : ixN n i = some i.toNat := by
  unfold ixN
  rw [if_pos h0, if_pos h1]
theorem isSg_at {z : Str} (h : isSg z = true) : ∃ c, z = ⟨#[c]⟩ ∧ oddC c = false := by
  obtain ⟨a⟩ := z
  obtain ⟨cs⟩ := a
  match cs, h with
  | [c], h => exact ⟨c, rfl, by simpa [isSg] using h⟩
section
variable {w : World} {K : PySem.W.Frag} {mg : Str → Option Value} {base : Heap}
theorem sc_Row_setitem : FnScope N_Row_setitem P_Row_setitem (defScope s_Row_setitem) := ⟨rfl, rfl, rfl, by decide +kernel, rfl, by decide +kernel, by decide +kernel⟩
theorem ok_Row_setitem (T : Txt K mg) : FnOk prg w K mg base (L2.CX prg w) 4 T.f_Row_setitem T.fd_Row_setitem P_Row_setitem (sp_Row_setitem T.c_NoPlace T.c_BadSign T.c_BadHeight T.c_Row) := by
  refine T.F_Row_setitem.okX sc_Row_setitem (fun vs H Q E h => ?_) (fun cdv A outer s H vs Q E hr h => ?_)
  · obtain ⟨p, l, t, ps, i, h, z, rfl, _⟩ := h
    rfl
  obtain ⟨p, l, t, ps, i, h, z, rfl, hR, ht, hps, hz, hi, hh, kN, kr⟩ := h
  have nd := sc_Row_setitem.nd
  obtain ⟨tG, k_GREATEST_HEIGHT⟩ := T.k_GREATEST_HEIGHT
  have tk : Takes (cxOf (L2.CX prg w) prg w K mg base N_Row_setitem "Row.__setitem__" (defScope s_Row_setitem) T.f_Row_setitem cdv A outer s H E) (fun cls d _ H' => E cls d H') := takes_of rfl rfl rfl rfl
  refine ⟨_, (pss_cons (ps_if (pt_not (pt_val (pe_callB call_isi (by rfl) T.n_isinstance (by decide +kernel) (pa_cons (pv 1) (pa_cons (pe_bltn (v := .ty "int") (by rfl) T.n_int (by decide +kernel) rfl) pa_nil))))) pss_never pss_nil)
    (pss_cons (ps_expr (pe_mt (pv 0) T.cl_Row T.M_Row_check_place (ok_Row_check_place T) (hr.mono (by decide)) T.b_Row_check_place .nil (passAt tk) (pa_cons (pv 1) pa_nil)))
    (pss_cons (ps_asg (pv 2) (pg_tup rfl (pgs_cons (pg_name (i := 3) nd rfl (Or.inl rfl)) (pgs_cons (pg_name (i := 4) nd rfl (Or.inl rfl)) pgs_nil))))
    (pss_cons (ps_if (pt_not (pt_val (pe_fn (ok_is_sign T) (hr.mono (by decide)) (by rfl) T.m_is_sign T.F_is_sign.kp T.b_is_sign .nil (passAt tk) (pa_cons (pv 3) pa_nil)))) (pss_one (ps_raise rfl tk (pmk_oex T.o_BadSign T.i_BadSign T.t_BadSign (ok_BadSign_init T) (hr.mono (by decide)) T.b_BadSign_init .nil passN (by rfl) T.m_BadSign (pa_cons pe_int pa_nil)))) pss_nil)
    (pss_cons (ps_expr (pe_fn (ok_check_height T) (hr.mono (by decide)) (by rfl) T.m_check_height T.F_check_height.kp T.b_check_height .nil (passAt tk) (pa_cons (pv 4) (pa_cons (pe_glob (v := .int 9) (by rfl) k_GREATEST_HEIGHT ⟨_, rfl⟩) pa_nil))))
    (pss_one (ps_asg (pe_tup (pa_cons (pv 3) (pa_cons (pv 4) pa_nil))) (pg_sub (pe_fld (pv 0) rfl) (pv 1) set_list)))))))), ?_⟩
  obtain ⟨dx, hp, ts, hl, hP⟩ := id hR
  have lt := hP.length
  refine ⟨_, rfl, _, _, .type "int", .type "int", true, rfl, .ty _, .base (.int i), kit_ty (by decide +kernel), true, rfl, ?_⟩
  refine iteF ?_
  refine ⟨_, rfl, p, dx, _, rfl, hp, rfl, _, rfl, p, l, ps, i, rfl, hR, hps, hi, fun ok => ?_, fun bad H2 d S hd e => kN bad H2 d S hd e⟩
  obtain ⟨kB, kr⟩ := kr ok
  refine ⟨_, rfl, t, _, rfl, SqT.of ht, rfl, _, _, rfl, _, _, rfl, rfl, ?_⟩
  refine ⟨_, rfl, z, rfl, hz, isSg z, rfl, ?_⟩
  cases hs : isSg z with
  | false =>
    exact iteT ⟨by show 1 ≤ 1000; decide, raise_fld (C := T.c_BadSign) (fld := "at") (n := 0) (H1 := H) (Q := E) (by decide) fun H2 d S hd e => kB hs H2 d S hd e⟩
  | true =>
    obtain ⟨kH, kg⟩ := kr hs
    refine iteF ?_
    refine ⟨_, rfl, h, 9, rfl, hh, fun okh => ?_, fun bad H2 d S hd e => kH bad H2 d S hd e⟩
    obtain ⟨c, rfl, hc⟩ := isSg_at hs
    refine ⟨_, rfl, _, rfl, by show 2 ≤ sizeLine; decide, fun u hu => ?_⟩
    have S1 := Rz.Same.new (o := .tup [.str ⟨#[c]⟩, .int h]) (Same.refl H) hu
    refine ⟨_, rfl, p, _, dx, _, _, rfl, S1 _ _ hp, T.cl_Row, T.na_Row__pairs, rfl, _, rfl, ?_⟩
    refine ⟨l, _, i, i.toNat, rfl, rfl, S1 _ _ hl, ?_, ?_⟩
    · rw [List.length_map, lt]
      exact ixN_in ok.1 ok.2
    · refine kg okh _ c rfl hc ((But.of S1).upd (.inl (by simp))) ?_
      have nul : u ≠ l := fun z => by rw [z, hl] at hu; cases hu
      have npl : p ≠ l := fun z => by rw [z, hl] at hp; cases hp
      refine ⟨dx, by rw [upd_ne npl]; exact S1 _ _ hp, ts.set i.toNat u, ?_, ?_⟩
      · rw [upd_same, List.map_set]
      · have e1 : Tups H (upd (upd H u (.tup [.str ⟨#[c]⟩, .int h])) l (.lst ((ts.map V.ref).set i.toNat (.ref u)))) := Tups.upd (Tups.of S1) fun xs e => by rw [S1 _ _ hl] at e; cases e
        exact PAt.set (p := (c, h)) (by rw [upd_ne nul, upd_same]; rfl) _ (hP.keep e1)
end
end Rz

namespace Rz
open PySem PySem.Spec PyProof.Rows L2
/-- a slice of the row itself is replaced by another row, or by itself -/
def sp_Row_setitemS (cR : Addr) : Sp := fun vs H Q _ => ∃ (p l q m sl : Addr) (ps qs : List Pr) (i j : Nat), vs = [.ref p, .ref sl, .ref q] ∧ RAt cR H p l ps ∧ RAt cR H q m qs ∧ H sl = some (SlO sl i j) ∧ i ≤ j ∧ j ≤ ps.length ∧ ps.length ≤ 1000000 ∧ qs.length ≤ 1000000 ∧
  ∀ H', But [l] H H' → RAt cR H' p l (ps.take i ++ qs ++ ps.drop j) → Q .non H'
section
variable {w : World} {K : PySem.W.Frag} {mg : Str → Option Value} {base : Heap}
theorem sc_Row_setitemS : FnScope N_Row_setitem P_Row_setitem (defScope s_Row_setitem) := ⟨rfl, rfl, rfl, by decide +kernel, rfl, by decide +kernel, by decide +kernel⟩
theorem ok_Row_setitemS (T : Txt K mg) : FnOk prg w K mg base (L2.CX prg w) 4 T.f_Row_setitem T.fd_Row_setitem P_Row_setitem (sp_Row_setitemS T.c_Row) := by
  refine Rz.Fun.okN T.F_Row_setitem sc_Row_setitemS (fun vs H Q E h => ?_) (fun cdv A outer s H vs Q E hr h => ?_)
  · obtain ⟨p, l, q, m, sl, ps, qs, i, j, rfl, _⟩ := h
    rfl
  obtain ⟨p, l, q, m, sl, ps, qs, i, j, rfl, ⟨dx, hp, ts, hl, hP⟩, ⟨dy, hq, us, hm, hU⟩, hsl, hij, hj, zp, zq, k⟩ := h
  refine ⟨_, (pss_cons (ps_if (pt_not (pt_val (pe_callB call_isiSl (by rfl) T.n_isinstance (by decide +kernel) (pa_cons (pv 1) (pa_cons (pe_bltn (v := .ty "int") (by rfl) T.n_int (by decide +kernel) rfl) pa_nil)))))
      (pss_cons (ps_asg (pe_callTy call_list_of (by rfl) T.n_list (by decide +kernel) (pa_cons (pe_fld (pv 2) rfl) pa_nil)) (pg_sub (pe_fld (pv 0) rfl) (pv 1) set_sliceV)) (pss_one ps_retN)) pss_nil) pss_never), ?_⟩
  have lt := hP.length
  have lu := hU.length
  refine ⟨_, rfl, sl, (i : Int), (j : Int), .ty "int", .type "int", false, rfl, .ty _, hsl, kit_ty (by decide +kernel), false, rfl, iteT ?_⟩
  refine ⟨_, rfl, q, _, dy, _, _, rfl, hq, T.cl_Row, T.na_Row__pairs, rfl, m, _, rfl, .inl (SqL.of hm), fun b hb => ?_⟩
  have S1 := Rz.Same.new (o := .lst (us.map V.ref)) (Same.refl H) hb
  have nlb : l ≠ b := ne_of_none hl hb
  have npl : p ≠ l := fun z => by rw [z, hl] at hp; cases hp
  refine ⟨_, rfl, p, _, dx, _, _, rfl, S1 _ _ hp, T.cl_Row, T.na_Row__pairs, rfl, _, rfl, l, b, sl, (i : Int), (j : Int), _, _, rfl, rfl, rfl, S1 _ _ hl, upd_same, S1 _ _ hsl, nlb, by omega, by omega, by rw [List.length_map]; omega, by rw [List.length_map, List.length_map, sizeLine_eq]; omega, ?_⟩
  refine k _ ((But.of S1).upd (.inl (by simp))) ⟨dx, by rw [upd_ne npl]; exact S1 _ _ hp, ts.take i ++ us ++ ts.drop j, ?_, ?_⟩
  · rw [upd_same, Int.toNat_natCast, Int.toNat_natCast, List.map_append, List.map_append, List.map_take, List.map_drop]
  · exact (((hP.take i).append hU).append (hP.drop j)).keep (Tups.upd (Tups.of S1) fun xs e => by rw [S1 _ _ hl] at e; cases e)
end
end Rz

namespace Rz
open PySem PySem.Spec PyProof.Rows L2
/-- what becomes of Rule(l, r) -/
inductive RD | sign (i : Nat) | bad | good
def rd (l r : Str) : RD := match fo l with
  | some i => .sign i
  | none => match fo r with
    | some i => .sign i
    | none => if l.length < 1 ∨ l.length > 4 ∨ r.length > 4 then .bad else .good
def ruleF (l r : Str) : List (Str × V) := putF "right" (.str r) (putF "left" (.str l) [])
def sp_Rule_init (cB cR cC : Addr) : Sp := fun vs H Q E => ∃ (p dx : Addr) (l r : Str), vs = [.ref p, .str l, .str r] ∧ l.length ≤ 1000000 ∧ r.length ≤ 1000000 ∧ H p = some (.ins cC dx []) ∧
  (match rd l r with
    | .sign i => ∀ H' d, But [p] H H' → H d = none → H' d = some (.xd [("at", .int (i : Nat))]) → E (.ref cB) (some d) H'
    | .bad => ∀ H', But [p] H H' → E (.ref cR) none H'
    | .good => ∀ H', But [p] H H' → H' p = some (.ins cC dx (ruleF l r)) → Q .non H')
section
variable {w : World} {K : PySem.W.Frag} {mg : Str → Option Value} {base : Heap}
theorem sc_Rule_init : FnScope N_Rule_init P_Rule_init (defScope s_Rule_init) := ⟨rfl, rfl, rfl, by decide +kernel, rfl, by decide +kernel, by decide +kernel⟩
theorem ok_Rule_init (T : Txt K mg) : FnOk prg w K mg base (L2.CX prg w) 4 T.f_Rule_init T.fd_Rule_init P_Rule_init (sp_Rule_init T.c_BadSign T.c_BadRule T.c_Rule) := by
  refine T.D_Rule_init.ok sc_Rule_init (fun vs H Q E h => ?_) (fun cdv A outer s H vs Q E hr h => ?_)
  · obtain ⟨p, dx, l, r, rfl, _⟩ := h
    rfl
  obtain ⟨p, dx, l, r, rfl, hl, hr4, hp, k⟩ := h
  have nd := sc_Rule_init.nd
  obtain ⟨tM, k_MOST_SIGNS⟩ := T.k_MOST_SIGNS
  have tk : Takes (cxOf (L2.CX prg w) prg w K mg base N_Rule_init "Rule.__init__" (defScope s_Rule_init) T.f_Rule_init cdv A outer s H E) (fun cls d _ H' => E cls d H') := takes_of rfl rfl rfl rfl
  refine ⟨_, (pss_cons (ps_expr (pe_fn (ok_check_text T) (hr.mono (by decide)) (by rfl) T.m_check_text T.F_check_text.kp T.b_check_text .nil (passAt tk) (pa_cons (pv 1) pa_nil)))
    (pss_cons (ps_expr (pe_fn (ok_check_text T) (hr.mono (by decide)) (by rfl) T.m_check_text T.F_check_text.kp T.b_check_text .nil (passAt tk) (pa_cons (pv 2) pa_nil)))
    (pss_cons (ps_if (PW.pt (pw_or (pt_not (pt_truth (pv 1) (by intro _; rfl))) (pw_or (pt_cmpR op_gt (pe_callB call_len_str (by rfl) T.n_len PySem.boot_len (pa_cons (pv 1) pa_nil)) (pe_glob (v := .int 4) (by rfl) k_MOST_SIGNS ⟨_, rfl⟩) (nomark _)) (pw_or1 (pt_cmpR op_gt (pe_callB call_len_str (by rfl) T.n_len PySem.boot_len (pa_cons (pv 2) pa_nil)) (pe_glob (v := .int 4) (by rfl) k_MOST_SIGNS ⟨_, rfl⟩) (nomark _)))))) (pss_one (ps_raise rfl tk (pmk_own PySem.F.excBase_ValueError T.o_BadRule T.m_BadRule T.kp_BadRule (raises_own T.r_BadRule T.t_BadRule) rfl))) pss_nil)
    (pss_cons (ps_fld (pv 0) (pv 1) rfl)
    (pss_one (ps_fld (pv 0) (pv 2) rfl)))))), ?_⟩
  have keepP : ∀ {H' : Hp}, Same H H' → H' p = some (.ins T.c_Rule dx []) := fun S => S _ _ hp
  refine ⟨_, rfl, l, rfl, hl, fun f1 H1 S1 => ?_, fun i f1 H1 d S1 hd e => ?_⟩
  · refine ⟨_, rfl, r, rfl, hr4, fun f2 H2 S2 => ?_, fun j i H2 d S2 hd e => ?_⟩
    · have S3 := S1.trans S2
      have g := keepP S3
      have hll : l.length ≤ sizeLine := by rw [sizeLine_eq]; omega
      have hlr : r.length ≤ sizeLine := by rw [sizeLine_eq]; omega
      unfold rd at k
      rw [f1] at k
      dsimp only at k
      rw [f2] at k
      dsimp only at k
      have bad : (l.length < 1 ∨ l.length > 4 ∨ r.length > 4) → E (.ref T.c_BadRule) none H2 := fun h => by
        rw [if_pos h] at k
        exact k H2 (But.of S3)
      have good : ¬ (l.length < 1 ∨ l.length > 4 ∨ r.length > 4) → tSeq (sFld K (tVar 0) (tVar 1) "left") (sFld K (tVar 0) (tVar 2) "right") { nx := fun _ H' => Q .non H', rt := Q } [some (.ref p), some (.str l), some (.str r)] H2 := fun h => by
        rw [if_neg h] at k
        refine ⟨_, rfl, _, rfl, p, _, dx, _, rfl, g, T.cl_Rule, T.na_Rule_left, by show 0 < 1000; decide, ?_⟩
        refine ⟨_, rfl, _, rfl, p, _, dx, _, rfl, upd_same, T.cl_Rule, T.na_Rule_right, by show 1 < 1000; decide, ?_⟩
        exact k _ (((But.of S3).upd (.inl (by simp))).upd (.inl (by simp))) upd_same
      refine ⟨_, rfl, _, ⟨hll, rfl⟩, ?_⟩
      show if (!((l.length : Int) != 0)) = true then _ else _
      refine ite2 (fun h => iteT (bad (.inl (by
        have h2 : ((l.length : Int) != 0) = false := by simpa using h
        have h3 : (l.length : Int) = 0 := by simpa using h2
        omega)))) (fun h => ?_)
      have hl0 : ¬ l.length < 1 := fun z => h (by
        have e : l.length = 0 := by omega
        rw [e]; rfl)
      refine ⟨_, rfl, l, rfl, hll, _, _, rfl, rfl, _, rfl, ?_⟩
      refine ite2 (fun h => iteT (bad (.inr (.inl (by have := of_decide_eq_true h; omega))))) (fun h => ?_)
      have hl4 : ¬ l.length > 4 := fun z => h (decide_eq_true (by omega))
      refine ⟨_, rfl, r, rfl, hlr, _, _, rfl, rfl, _, rfl, ?_⟩
      refine ite2 (fun h => bad (.inr (.inr (by have := of_decide_eq_true h; omega)))) (fun h => ?_)
      have hr5 : ¬ r.length > 4 := fun z => h (decide_eq_true (by omega))
      exact good (by omega)
    · have S3 := S1.trans S2
      unfold rd at k
      rw [f1] at k
      dsimp only at k
      rw [i] at k
      exact k H2 d (But.of S3) (S1.free hd) e
  · unfold rd at k
    rw [f1] at k
    exact k H1 d (But.of S1) hd e
end
end Rz

namespace Rz
open PySem PySem.Spec PyProof.Rows L2
def ruleT (l r : Str) : Str := Str.empty ++ l ++ ":" ++ r
def sp_Rule_str (cC : Addr) : Sp := fun vs H Q _ => ∃ (p dx : Addr) (l r : Str), vs = [.ref p] ∧ l.length ≤ 1000000 ∧ r.length ≤ 1000000 ∧ H p = some (.ins cC dx (ruleF l r)) ∧ Q (.str (ruleT l r)) H
theorem ruleF_left (l r : Str) : (ruleF l r).lookup ("left" : Str) = some (.str l) := by
  unfold ruleF
  rw [lookup_putF, if_neg (by decide), lookup_putF, if_pos rfl]
theorem ruleF_right (l r : Str) : (ruleF l r).lookup ("right" : Str) = some (.str r) := by
  unfold ruleF
  rw [lookup_putF, if_pos rfl]
section
variable {w : World} {K : PySem.W.Frag} {mg : Str → Option Value} {base : Heap}
theorem sc_Rule_str : FnScope N_Rule_str P_Rule_str (defScope s_Rule_str) := ⟨rfl, rfl, rfl, by decide +kernel, rfl, by decide +kernel, by decide +kernel⟩
theorem ok_Rule_str (T : Txt K mg) : FnOk prg w K mg base (L2.CX prg w) 1 T.f_Rule_str T.fd_Rule_str P_Rule_str (sp_Rule_str T.c_Rule) := by
  refine Rz.Fun.okN T.F_Rule_str sc_Rule_str (fun vs H Q E h => ?_) (fun cdv A outer s H vs Q E hr h => ?_)
  · obtain ⟨p, dx, l, r, rfl, _⟩ := h
    rfl
  obtain ⟨p, dx, l, r, rfl, hl, hr1, hp, k⟩ := h
  refine ⟨_, (pss_one (ps_ret (pe_joined (.cons (pe_fmt (pe_fld (pv 0) rfl)) (.cons pe_str (.cons (pe_fmt (pe_fld (pv 0) rfl)) .nil)))))), ?_⟩
  refine ⟨_, rfl, p, _, dx, _, _, rfl, hp, T.cl_Rule, T.na_Rule_left, ruleF_left l r, .inl ⟨l, rfl, by rw [sizeLine_eq]; omega, l, rfl, ?_, ":", rfl, ?_, ?_⟩⟩
  · rw [Str.length_append, sizeLine_eq]
    show 0 + l.length ≤ _
    omega
  · rw [Str.length_append, Str.length_append, sizeLine_eq]
    show 0 + l.length + 1 ≤ _
    omega
  refine ⟨_, rfl, p, _, dx, _, _, rfl, hp, T.cl_Rule, T.na_Rule_right, ruleF_right l r, .inl ⟨r, rfl, by rw [sizeLine_eq]; omega, r, rfl, ?_, k⟩⟩
  rw [Str.length_append, Str.length_append, Str.length_append, sizeLine_eq]
  show 0 + l.length + 1 + r.length ≤ _
  omega
end
end Rz

namespace Rz
open PySem PySem.Spec PyProof.Rows L2
/-- a rule stands at q -/
def RuAt (cC : Addr) (H : Hp) (q : Addr) (l r : Str) : Prop := ∃ dq, H q = some (.ins cC dq (ruleF l r))
theorem RuAt.same {cC : Addr} {H H' : Hp} {q : Addr} {l r : Str} (h : RuAt cC H q l r) (S : Same H H') : RuAt cC H' q l r := let ⟨d, e⟩ := h; ⟨d, S _ _ e⟩
theorem RuAt.but {cC : Addr} {D : List Addr} {H H' : Hp} {q : Addr} {l r : Str} (h : RuAt cC H q l r) (B : But D H H') (n : q ∉ D) : RuAt cC H' q l r := let ⟨d, e⟩ := h; ⟨d, B.at e n⟩
def sp_fits (cC : Addr) : Sp := fun vs H Q _ => ∃ (q : Addr) (l r x : Str) (i : Int), vs = [.ref q, .str x, .int i] ∧ RuAt cC H q l r ∧ l.cps.toList ≠ [] ∧ Q (.bl (fitAt x.cps.toList l.cps.toList i)) H
section
variable {w : World} {K : PySem.W.Frag} {mg : Str → Option Value} {base : Heap}
theorem sc_fits : FnScope N__fits P__fits (defScope s__fits) := ⟨rfl, rfl, rfl, by decide +kernel, rfl, by decide +kernel, by decide +kernel⟩
theorem ok_fits (T : Txt K mg) : FnOk prg w K mg base (L2.CX prg w) 1 T.f__fits T.fd__fits P__fits (sp_fits T.c_Rule) := by
  refine Rz.Fun.okN T.F__fits sc_fits (fun vs H Q E h => ?_) (fun cdv A outer s H vs Q E hr h => ?_)
  · obtain ⟨q, l, r, x, i, rfl, _⟩ := h
    rfl
  obtain ⟨q, l, r, x, i, rfl, ⟨dq, hq⟩, hl, k⟩ := h
  refine ⟨_, (pss_one (ps_ret (pe_and (pe_cmpR op_ge (pv 2) pe_int (nomark _)) (pe_one (pe_bm PySem.F.plainAttrs_str PySem.F.slot_str_startswith PySem.F.type_str_startswith mt_startswith3 (pv 1) (pa_cons (pe_fld (pv 0) rfl) (pa_cons (pv 2) pa_nil))))))), ?_⟩
  refine ⟨_, rfl, _, _, rfl, rfl, _, rfl, ?_⟩
  by_cases h0 : 0 ≤ i
  · rw [decide_eq_true h0]
    refine iteT ⟨_, rfl, rfl, _, rfl, q, _, dq, _, _, rfl, hq, T.cl_Rule, T.na_Rule_left, ruleF_left l r, _, rfl, x, l, i, rfl, rfl, ?_⟩
    rw [starts_fit h0 hl]
    exact k
  · rw [decide_eq_false h0]
    refine iteF ?_
    have e : fitAt x.cps.toList l.cps.toList i = false := by
      unfold fitAt
      rw [decide_eq_false h0]
      rfl
    rw [e] at k
    exact k
end
end Rz

namespace Rz
open PySem PySem.Spec PyProof.Rows L2
/-- what Rule(l, r) asks for where it can be made -/
theorem rule_new {cB cR cC : Addr} {H : Hp} {Q : VK} {E : XK} {l r : Str} {vs dvs : List V} (e : vs ++ dvs = [.str l, .str r]) (hl : l.length ≤ 1000000) (hr : r.length ≤ 1000000) (hg : rd l r = .good)
    (k : ∀ (H' : Hp) (q : Addr), Same H H' → H q = none → RuAt cC H' q l r → Q (.ref q) H') : MkR cC (sp_Rule_init cB cR cC) dvs E vs H Q := by
  rw [mkR_eq, e]
  intro x dx hx hdx ndx
  refine ⟨x, dx, l, r, rfl, hl, hr, upd_same, ?_⟩
  rw [hg]
  intro H4 B e4
  refine ⟨rfl, k H4 x (fun b o e => ?_) hx ⟨dx, e4⟩⟩
  exact B b o (by have := ne_of_none e hx; simpa using this) (by rw [upd_ne (ne_of_none e hx), upd_ne (ne_of_none e hdx)]; exact e)
end Rz

namespace Rz
open PySem PySem.Spec PyProof.Rows L2
theorem rd_good {l r : Str} (h : rd l r = .good) : fo l = none ∧ fo r = none ∧ 1 ≤ l.length ∧ l.length ≤ 4 ∧ r.length ≤ 4 := by
  unfold rd at h
  cases e1 : fo l with
  | some i => rw [e1] at h; cases h
  | none =>
    rw [e1] at h
    cases e2 : fo r with
    | some i => rw [e2] at h; cases h
    | none =>
      rw [e2] at h
      dsimp only at h
      by_cases c : l.length < 1 ∨ l.length > 4 ∨ r.length > 4
      · rw [if_pos c] at h; cases h
      · exact ⟨rfl, rfl, by omega, by omega, by omega⟩
theorem good_rd {l r : Str} (h1 : fo l = none) (h2 : fo r = none) (h3 : 1 ≤ l.length) (h4 : l.length ≤ 4) (h5 : r.length ≤ 4) : rd l r = .good := by
  unfold rd
  rw [h1]
  dsimp only
  rw [h2]
  dsimp only
  rw [if_neg (by omega)]
theorem str_ne {z : Str} (h : 1 ≤ z.length) : z.cps.toList ≠ [] := fun e => by
  have : z.cps.toList.length = 0 := by rw [e]; rfl
  rw [len_list] at this
  omega
theorem rep1 (n : Nat) (h : Int) : (List.replicate n [V.int h]).flatten = (List.replicate n h).map V.int := by
  induction n with
  | zero => rfl
  | succ n ih => rw [List.replicate_succ, List.flatten_cons, ih]; rfl
theorem cut_hts {ps : List Pr} {i n : Nat} (h : i + n ≤ ps.length) : cutV ((hts ps).map V.int) (some (i : Int)) (some ((i + n : Nat) : Int)) = (hts ((ps.drop i).take n)).map V.int := by
  rw [cutV_nat (by omega) (by rw [List.length_map, hts_len]; exact h)]
  unfold hts
  rw [show i + n - i = n by omega, ← List.map_drop, ← List.map_take, ← List.map_drop, ← List.map_take]
/-- the step goes beyond the bound -/
def tooFar (ps : List Pr) (l r : Str) (i : Int) (most : Int) : Prop := r.cps.toList ≠ [] ∧ most < 1 + leastAt ps i.toNat l.length
def sp_stepped (cM cB cR cC : Addr) : Sp := fun vs H Q E => ∃ (q p m : Addr) (l r : Str) (ps : List Pr) (i most : Int), vs = [.ref q, .ref p, .int i, .int most] ∧ RuAt cC H q l r ∧ rd l r = .good ∧ RAt cR H p m ps ∧ GoodR ps ∧ ps.length ≤ 10000 ∧ i.natAbs < 2 ^ 60 ∧ 0 ≤ most ∧ most ≤ 9 ∧
  (fitAt (ps.map (·.1)) l.cps.toList i = false → ∀ H' d, Same H H' → H d = none → H' d = some (.xd [("at", .int i)]) → E (.ref cM) (some d) H') ∧
  (fitAt (ps.map (·.1)) l.cps.toList i = true → (tooFar ps l r i most → ∀ H' d, Same H H' → H d = none → H' d = some (.xd [("height", .int (1 + leastAt ps i.toNat l.length))]) → E (.ref cB) (some d) H') ∧
    (¬ tooFar ps l r i most → ∀ H' s ms, Same H H' → H s = none → H ms = none → RAt cR H' s ms (stepTo ps l.cps.toList r.cps.toList i.toNat) → Q (.ref s) H'))
section
variable {w : World} {K : PySem.W.Frag} {mg : Str → Option Value} {base : Heap}
theorem sc_stepped : FnScope N__stepped P__stepped (defScope s__stepped) := ⟨rfl, rfl, rfl, by decide +kernel, rfl, by decide +kernel, by decide +kernel⟩
theorem ok_stepped (T : Txt K mg) : FnOk prg w K mg base (L2.CX prg w) 8 T.f__stepped T.fd__stepped P__stepped (sp_stepped T.c_Mismatch T.c_Beyond T.c_Row T.c_Rule) := by
  refine T.F__stepped.okX sc_stepped (fun vs H Q E h => ?_) (fun cdv A outer s H vs Q E hr h => ?_)
  · obtain ⟨q, p, m, l, r, ps, i, most, rfl, _⟩ := h
    rfl
  obtain ⟨q, p, m, l, r, ps, i, most, rfl, hRu, hgd, hR, hg, hz, hi, b0, b9, kM, kk⟩ := h
  have nd := sc_stepped.nd
  obtain ⟨ds, vd, bd⟩ := bd_Row_init_3 T
  cases vd
  have tk : Takes (cxOf (L2.CX prg w) prg w K mg base N__stepped "_stepped" (defScope s__stepped) T.f__stepped cdv A outer s H E) (fun cls d _ H' => E cls d H') := takes_of rfl rfl rfl rfl
  refine ⟨_, (pss_cons (ps_if (pt_not (pt_val (pe_fn (ok_fits T) (hr.mono (by decide)) (by rfl) T.m__fits T.F__fits.kp T.b__fits .nil (fun _ => atN _) (pa_cons (pv 0) (pa_cons (pe_pr (pv 1) T.cl_Row T.M_Row_signs (ok_Row_signs T) (hr.mono (by decide)) T.b_Row_signs passN) (pa_cons (pv 2) pa_nil)))))) (pss_one (ps_raise rfl tk (pmk_oex T.o_Mismatch T.i_Mismatch T.t_Mismatch (ok_Mismatch_init T) (hr.mono (by decide)) T.b_Mismatch_init .nil passN (by rfl) T.m_Mismatch (pa_cons (pv 2) pa_nil)))) pss_nil)
    (pss_cons (ps_set (i := 4) nd rfl (Or.inl rfl) (pe_op op_add (pv 2) (pe_callB call_len_str (by rfl) T.n_len PySem.boot_len (pa_cons (pe_fld (pv 0) rfl) pa_nil))))
    (pss_cons (ps_set (i := 5) nd rfl (Or.inl rfl) (pe_op op_add pe_int (pe_callB (cr_min (by rfl)) (by rfl) T.n_min (by decide +kernel) (pa_cons (pe_slice sl_list (pe_pr (pv 1) T.cl_Row T.M_Row_heights (ok_Row_heights T) (hr.mono (by decide)) T.b_Row_heights passN) (po_some (pv 2)) (po_some (pv 4))) pa_nil))))
    (C8.pss_cut (ps_if (PW.pt (pw_and (pt_truth (pe_fld (pv 0) rfl) (by intro _; rfl)) (pw_and1 (pt_cmpR op_gt (pv 5) (pv 3) (nomark _))))) (pss_one (ps_raise rfl tk (pmk_oex T.o_Beyond T.i_Beyond T.t_Beyond (ok_Beyond_init T) (hr.mono (by decide)) T.b_Beyond_init .nil passN (by rfl) T.m_Beyond (pa_cons (pv 5) pa_nil)))) pss_nil)
    (pss_cons (ps_set (i := 6) nd rfl (Or.inl rfl) (pe_sliceG T.M_Row_getitem T.nsq_Row (fn_in T.F_Row_getitem) (ok_Row_getitemS T) (hr.mono (by decide)) T.b_Row_getitem (pv 1) pe_int (pe_callB (call_lenO T.M_Row_len (ok_Row_len T) (hr.mono (by decide)) T.b_Row_len) (by rfl) T.n_len PySem.boot_len (pa_cons (pv 1) pa_nil))))
    (pss_cons (ps_asg (pe_mkR ⟨T.mk_Row, T.M_Row_init.at_, T.M_Row_init.fn, T.kp_Row⟩ (ok_Row_init T) (hr.mono (by decide)) (by rfl) T.m_Row bd .nil (fun _ => atN _) (pa_cons (pe_fld (pv 0) rfl) (pa_cons (pe_op op_rep (pe_lst (pa_cons (pv 5) pa_nil)) (pe_callB call_len_str (by rfl) T.n_len PySem.boot_len (pa_cons (pe_fld (pv 0) rfl) pa_nil))) pa_nil))) (pg_sliceS T.M_Row_setitem T.nsq_Row (ok_Row_setitemS T) (hr.mono (by decide)) T.b_Row_setitem (pv 6) (pv 2) (pv 4)))
    (pss_one (ps_ret (pv 6))))))))), ?_⟩
  obtain ⟨fl, fr, l1, l4, r4⟩ := rd_good hgd
  have lne := str_ne l1
  have hll : l.length ≤ sizeLine := by rw [sizeLine_eq]; omega
  have hlr : r.length ≤ sizeLine := by rw [sizeLine_eq]; omega
  obtain ⟨dx, hp, hL⟩ := id hR
  refine ⟨_, rfl, _, rfl, p, dx, _, rfl, hp, p, m, ps, rfl, hR, by omega, fun H1 S1 => ⟨_, rfl, q, l, r, tx ps, i, rfl, hRu.same S1, lne, fitAt (ps.map (·.1)) l.cps.toList i, rfl, ?_⟩⟩
  cases hf : fitAt (ps.map (·.1)) l.cps.toList i with
  | false =>
    refine iteT ⟨_, rfl, by show 1 ≤ 1000; decide, raise_fld (C := T.c_Mismatch) (fld := "at") (n := i) (H1 := H1) (Q := E) (log_small hi (by decide)) fun H2 d S2 hd e => kM hf H2 d (S1.trans S2) (S1.free hd) e⟩
  | true =>
    refine iteF ?_
    obtain ⟨kb, kg⟩ := kk hf
    have i0 := (fit_iff.mp hf).1
    obtain ⟨n, rfl⟩ := Int.eq_ofNat_of_zero_le i0
    have hen := fit_len hf lne
    rw [Int.toNat_natCast, List.length_map] at hen
    rw [Int.toNat_natCast] at kg kb
    have hen' : n + l.length ≤ ps.length := hen
    obtain ⟨dq, hq⟩ := hRu.same S1
    refine ⟨_, rfl, _, rfl, q, _, dq, _, _, rfl, hq, T.cl_Rule, T.na_Rule_left, ruleF_left l r, l, rfl, hll, _, _, rfl, rfl, ?_⟩
    show gName 4 (V.int ((n : Int) + (l.length : Int))) _ _ _
    rw [show (n : Int) + (l.length : Int) = ((n + l.length : Nat) : Int) by omega]
    obtain ⟨dx1, hp1, _⟩ := id (hR.same S1)
    refine ⟨_, rfl, p, dx1, _, rfl, hp1, p, m, ps, rfl, hR.same S1, by omega, fun H2 dh S2 hdh eh => ⟨_, rfl, _, rfl, _, rfl, _, rfl, dh, _, rfl, SqL.of eh, fun D hD => ?_⟩⟩
    rw [cut_hts hen']
    have SD := Rz.Same.new (o := .lst ((hts ((ps.drop n).take l.length)).map V.int)) S2 hD
    have S3 := S1.trans SD
    refine ⟨D, _, rfl, SqL.of upd_same, by rw [hts_len, List.length_take, List.length_drop]; omega, fun mm hm hall => ⟨_, _, rfl, rfl, ?_⟩⟩
    show gName 5 (V.int (1 + mm)) _ _ _
    have emm : mm = leastAt ps n l.length := leastL_eq hm hall
    subst emm
    generalize (upd H2 D (.lst ((hts ((ps.drop n).take l.length)).map V.int))) = H3 at S3
    clear SD S2 eh hdh hD hq hp1 S1 hm hall
    obtain ⟨dq, hq⟩ := hRu.same S3
    have lg := leastAt_good hg hen' (by omega)
    have hlog : (1 + leastAt ps n l.length).natAbs.log2 < 1920 := log_small (k := 64) (by omega) (by decide)
    generalize hh : 1 + leastAt ps n l.length = hgt at kb hlog
    have far : tooFar ps l r (n : Int) most ↔ (r.cps.toList ≠ [] ∧ most < hgt) := by
      unfold tooFar
      rw [Int.toNat_natCast, hh]
    refine ⟨fun σ H' => σ = [some (.ref q), some (.ref p), some (.int (n : Nat)), some (.int most), some (.int ((n + l.length : Nat) : Int)), some (.int hgt), none] ∧ H' = H3 ∧ ¬ tooFar ps l r (n : Int) most, ?_, ?_⟩
    · refine ⟨_, rfl, q, _, dq, _, _, rfl, hq, T.cl_Rule, T.na_Rule_right, ruleF_right l r, _, ⟨hlr, rfl⟩, ?_⟩
      show if ((r.length : Int) != 0) = true then _ else _
      refine ite2 (fun hne => ⟨_, rfl, _, rfl, _, _, rfl, rfl, _, rfl, ?_⟩) (fun he => iteF ⟨rfl, rfl, fun z => he ?_⟩)
      · have rne : r.cps.toList ≠ [] := fun e => by
          have e2 : r.cps.toList.length = 0 := by rw [e]; rfl
          rw [len_list] at e2
          rw [e2] at hne
          exact absurd hne (by decide)
        refine ite2 (fun hb => ?_) (fun hb => ⟨rfl, rfl, fun z => hb (decide_eq_true (far.mp z).2)⟩)
        have hb' : most < hgt := of_decide_eq_true hb
        exact ⟨_, rfl, by show 1 ≤ 1000; decide, raise_fld (C := T.c_Beyond) (fld := "height") (n := hgt) (H1 := H3) (Q := E) hlog fun H2 d S2 hd e => kb (far.mpr ⟨rne, hb'⟩) H2 d (S3.trans S2) (S3.free hd) e⟩
      · have h1 := (far.mp z).1
        have h2 : 0 < r.length := List.length_pos_iff.mpr h1
        have h3 : (r.length : Int) ≠ 0 := by omega
        exact bne_iff_ne.mpr h3
    rintro σ H4 ⟨rfl, rfl, nf⟩
    have hR3 := hR.same S3
    obtain ⟨dx3, hp3, _⟩ := id hR3
    refine ⟨_, rfl, (0 : Int), rfl, _, rfl, p, dx3, _, rfl, hp3, p, m, ps, rfl, hR3, ps.length, rfl, by omega, (ps.length : Nat), rfl, p, dx3, _, rfl, hp3, fun sl hsl => ?_⟩
    have Ssl := Rz.Same.new (o := SlO sl 0 (ps.length : Nat)) (Same.refl H4) hsl
    refine ⟨p, m, sl, ps, 0, ps.length, rfl, hR3.same Ssl, hg, by omega, upd_same, Nat.zero_le _, Nat.le_refl _, fun H5 s5 m5 S5 fs5 fm5 R5 => ?_⟩
    have R5' : RAt T.c_Row H5 s5 m5 ps := by
      rw [List.drop_zero, Nat.sub_zero, List.take_length] at R5
      exact R5
    have S45 := Ssl.trans S5
    have fs4 : H4 s5 = none := Ssl.free fs5
    have fm4 : H4 m5 = none := Ssl.free fm5
    have S05 := S3.trans S45
    obtain ⟨dq5, hq5⟩ := hRu.same S05
    obtain ⟨dx5, hp5, _⟩ := id R5'
    refine ⟨_, rfl, q, _, dq5, _, _, rfl, hq5, T.cl_Rule, T.na_Rule_right, ruleF_right l r, _, rfl, by show 1 ≤ sizeLine; decide, fun y hy => ?_⟩
    have Sy := Rz.Same.new (o := .lst [.int hgt]) (Same.refl H5) hy
    refine ⟨_, rfl, q, _, dq5, _, _, rfl, Sy _ _ hq5, T.cl_Rule, T.na_Rule_right, ruleF_right l r, r, rfl, hlr, y, _, _, rfl, rfl, upd_same, by omega, by omega, ?_, fun z hz => ?_⟩
    · show 1 * (r.length : Int).toNat ≤ sizeLine
      rw [Int.toNat_natCast]
      omega
    have Sz := Rz.Same.new (o := .lst (List.replicate (r.length : Int).toNat [V.int hgt]).flatten) Sy hz
    have ez : upd (upd H5 y (.lst [.int hgt])) z (.lst (List.replicate (r.length : Int).toNat [V.int hgt]).flatten) z = some (.lst ((List.replicate r.length hgt).map V.int)) := by
      rw [upd_same, Int.toNat_natCast, rep1]
    generalize upd (upd H5 y (.lst [.int hgt])) z (.lst (List.replicate (r.length : Int).toNat [V.int hgt]).flatten) = H6 at Sz ez
    have rng : r.cps.toList ≠ [] → 0 ≤ hgt ∧ hgt ≤ 9 := fun hne => by
      have h1 : ¬ most < hgt := fun c => nf (far.mpr ⟨hne, c⟩)
      omega
    refine row_new rfl (by omega) (.inr ⟨z, rfl, ez, by rw [List.length_replicate]; omega, fun x hx => by rw [(List.mem_replicate.mp hx).2]; omega⟩) (rr_fresh fr rng) fun H7 x mx S7 fx fmx Rx => ?_
    have Rx' : RAt T.c_Row H7 x mx (fresh r.cps.toList hgt) := by
      have e := zip_rep r.cps.toList hgt
      rw [len_list] at e
      rw [e] at Rx
      exact Rx
    have S57 := Sz.trans S7
    have R7 := R5'.same S57
    obtain ⟨dx7, hp7, _⟩ := id R7
    refine ⟨_, rfl, _, rfl, (n : Int), rfl, _, rfl, ((n + l.length : Nat) : Int), rfl, s5, dx7, _, rfl, hp7, fun sl2 hsl2 => ?_⟩
    have Ss2 := Rz.Same.new (o := SlO sl2 (n : Nat) ((n + l.length : Nat) : Int)) (Same.refl H7) hsl2
    refine ⟨s5, m5, x, mx, sl2, ps, fresh r.cps.toList hgt, n, n + l.length, rfl, R7.same Ss2, Rx'.same Ss2, upd_same, by omega, hen', by omega, by rw [fresh_len, len_list]; omega, fun H8 B8 R8 => ⟨_, rfl, ?_⟩⟩
    have e8 : stepTo ps l.cps.toList r.cps.toList n = ps.take n ++ fresh r.cps.toList hgt ++ ps.drop (n + l.length) := by
      unfold stepTo
      rw [← hh]
      rfl
    have fm0 : H m5 = none := S3.free fm4
    refine kg nf H8 s5 m5 (fun b o e => ?_) (S3.free fs4) fm0 (by rw [e8]; exact R8)
    have e1 := (S05.trans S57) _ _ e
    exact B8 b o (by have := ne_of_none e fm0; simpa using this) (Ss2 _ _ e1)
end
end Rz

namespace Rz
open PySem PySem.Spec PyProof.Rows L2
def sp_Rule_call (cM cB cR cC : Addr) : Sp := fun vs H Q E => ∃ (q p : Addr) (i : Int), vs = [.ref q, .ref p, .int i] ∧ sp_stepped cM cB cR cC [.ref q, .ref p, .int i, .int 9] H Q E
section
variable {w : World} {K : PySem.W.Frag} {mg : Str → Option Value} {base : Heap}
theorem sc_Rule_call : FnScope N_Rule_call P_Rule_call (defScope s_Rule_call) := ⟨rfl, rfl, rfl, by decide +kernel, rfl, by decide +kernel, by decide +kernel⟩
theorem ok_Rule_call (T : Txt K mg) : FnOk prg w K mg base (L2.CX prg w) 9 T.f_Rule_call T.fd_Rule_call P_Rule_call (sp_Rule_call T.c_Mismatch T.c_Beyond T.c_Row T.c_Rule) := by
  refine T.D_Rule_call.ok sc_Rule_call (fun vs H Q E h => ?_) (fun cdv A outer s H vs Q E hr h => ?_)
  · obtain ⟨q, p, i, rfl, _⟩ := h
    rfl
  obtain ⟨q, p, i, rfl, h⟩ := h
  obtain ⟨tG, k_GREATEST_HEIGHT⟩ := T.k_GREATEST_HEIGHT
  have tk : Takes (cxOf (L2.CX prg w) prg w K mg base N_Rule_call "Rule.__call__" (defScope s_Rule_call) T.f_Rule_call cdv A outer s H E) (fun cls d _ H' => E cls d H') := takes_of rfl rfl rfl rfl
  refine ⟨_, (pss_one (ps_ret (pe_fn (ok_stepped T) (hr.mono (by decide)) (by rfl) T.m__stepped T.F__stepped.kp T.b__stepped .nil (passAt tk) (pa_cons (pv 0) (pa_cons (pv 1) (pa_cons (pv 2) (pa_cons (pe_glob (v := .int 9) (by rfl) k_GREATEST_HEIGHT ⟨_, rfl⟩) pa_nil))))))), ?_⟩
  exact ⟨_, rfl, _, rfl, _, rfl, h⟩
end
end Rz

namespace Rz
open PySem PySem.Spec PyProof.Rows L2
def sp_law_pool (K : PySem.W.Frag) : Sp := fun vs H Q _ => ∃ (a : Addr) (ns : List Int), vs = [.ref a] ∧ SqL K H a (ns.map V.int) ∧ ns.length ≤ 63 ∧ ∀ H' d, Same H H' → H d = none → Dr H' d → Q (.ref d) H'
section
variable {w : World} {K : PySem.W.Frag} {mg : Str → Option Value} {base : Heap}
theorem sc_law_pool : FnScope N__law_pool P__law_pool (defScope s__law_pool) := ⟨rfl, rfl, rfl, by decide +kernel, rfl, by decide +kernel, by decide +kernel⟩
theorem ok_law_pool (T : Txt K mg) : FnOk prg w K mg base (L2.CX prg w) 1 T.f__law_pool T.fd__law_pool P__law_pool (sp_law_pool K) := by
  refine Rz.Fun.okN T.F__law_pool sc_law_pool (fun vs H Q E h => ?_) (fun cdv A outer s H vs Q E hr h => ?_)
  · obtain ⟨a, ns, rfl, _⟩ := h
    rfl
  obtain ⟨a, ns, rfl, hS, hlen, k⟩ := h
  have nd := sc_law_pool.nd
  refine ⟨_, pss_cons (ps_set (i := 1) nd rfl (Or.inl rfl) (pe_lst pa_nil)) (pss_cons (ps_set (i := 2) nd rfl (Or.inl rfl) pe_int)
    (pss_cons (ps_for PassesOwn.never rfl (pi_list (pv 0)) (pg_name (i := 3) nd rfl (Or.inl rfl))
      (pss_cons (ps_set (i := 4) nd rfl (Or.inl rfl) (pe_callB call_abs (by rfl) T.n_abs (by decide +kernel) (pa_cons (pv 3) pa_nil)))
      (pss_cons (ps_set (i := 2) nd rfl (Or.inl rfl) (pe_op op_mod (pe_callTy call_int1 (by rfl) T.n_int (by decide +kernel) (pa_cons (pe_op op_add (pe_op op_mul (pv 2) pe_int) (pv 4)) pa_nil)) pe_int))
      (pss_one (ps_if (pt_cmpR op_lt (pv 4) (pe_op op_pow pe_int pe_int) (nomark _))
        (pss_one (ps_expr (pe_bm PySem.F.plainAttrs_list PySem.F.slot_list_append PySem.F.type_list_append mt_append (pv 1) (pa_cons (pv 4) pa_nil))))
        (pss_one (ps_for PassesOwn.never rfl (pi_range1 rfl T.n_range (pa_cons pe_int pa_nil)) (pg_name (i := 5) nd rfl (Or.inl rfl))
          (pss_one (ps_if (pt_cmpR op_gt (pv 4) pe_int (nomark _))
            (pss_cons (ps_expr (pe_bm PySem.F.plainAttrs_list PySem.F.slot_list_append PySem.F.type_list_append mt_append (pv 1) (pa_cons (pe_op op_mod (pe_callTy call_int1 (by rfl) T.n_int (by decide +kernel) (pa_cons (pv 4) pa_nil)) pe_int) pa_nil)))
              (pss_one (ps_set (i := 4) nd rfl (Or.inl rfl) (pe_op op_fdiv (pv 4) pe_int))))
            pss_nil)))))))))
    (pss_cons (ps_for PassesOwn.never rfl (pi_range1 rfl T.n_range (pa_cons pe_int pa_nil)) (pg_name (i := 5) nd rfl (Or.inl rfl))
      (pss_cons (ps_set (i := 6) nd rfl (Or.inl rfl) (pe_op op_mod (pe_callTy call_int1 (by rfl) T.n_int (by decide +kernel) (pa_cons (pe_op op_mul (pe_op op_add (pv 2) pe_int) (pe_op op_add (pe_op op_fdiv (pe_op op_add (pe_op op_mul (pe_op op_mul pe_int (pv 5)) (pv 5)) (pe_op op_mul pe_int (pv 5))) pe_int) pe_int)) pa_nil)) pe_int))
        (pss_one (ps_expr (pe_bm PySem.F.plainAttrs_list PySem.F.slot_list_append PySem.F.type_list_append mt_append (pv 1) (pa_cons (pe_op op_mod (pe_callTy call_int1 (by rfl) T.n_int (by decide +kernel) (pa_cons (pe_op op_add (pe_op op_mul (pv 6) (pv 6)) (pv 5)) pa_nil)) pe_int) pa_nil))))))
    (pss_one (ps_ret (pv 1)))))), ?_⟩
  refine ⟨Nat.zero_le _, fun d hd => ?_⟩
  have S0 : Same H (upd H d (.lst [])) := Rz.Same.new (Same.refl H) hd
  refine ⟨_, rfl, a, rfl, ⟨_, S0.seq hS⟩, for_list (K := K) (a := a) (xs := ns.map V.int) (fun i σ H' => ∃ (ks : List Int) (sd : Int) (v3 v4 v5 v6 : Option V), σ = [some (.ref a), some (.ref d), some (.int sd), v3, v4, v5, v6] ∧ Same H H' ∧ H' d = some (.lst (ks.map V.int)) ∧ ks.length ≤ i * 60 ∧ 0 ≤ sd ∧ sd < 1009)
    ⟨[], 0, none, none, none, none, rfl, S0, upd_same, Nat.le_refl _, by omega, by omega⟩ (fun i σ H' _ ⟨_, _, _, _, _, _, _, R, _⟩ => R.seq hS) ?_ ?_⟩
  · rintro i y σ H' hi ⟨ks, sd, v3, v4, v5, v6, rfl, R, hK, hl, h0, h1⟩
    obtain ⟨u, hu, rfl⟩ := mapi_get hi
    have hi63 : i < ns.length := (List.getElem?_eq_some_iff.mp hu).1
    refine ⟨_, rfl, u, rfl, ?_⟩
    refine ⟨_, rfl, _, _, rfl, rfl, .inl ⟨by omega, by omega⟩, _, rfl, _, _, rfl, rfl, .inl ⟨_, rfl, _, _, rfl, rfl, (by show (0 : Int) < 1009; decide), ?_⟩⟩
    refine ⟨_, rfl, _, _, rfl, rfl, ⟨by decide, by decide, by decide⟩, _, _, rfl, rfl, _, rfl, ?_⟩
    generalize (if u < 0 then -u else u) = r
    have b0 : 0 ≤ (sd * 31 + r) % 1009 := by omega
    have b1 : (sd * 31 + r) % 1009 < 1009 := by omega
    refine ite2 (fun _ => ?_) (fun _ => ?_)
    · refine ⟨_, rfl, .inl ⟨rfl, _, SqL.of hK⟩, _, rfl, d, _, _, rfl, rfl, hK, (by rw [List.length_map, sizeLine_eq]; omega), ?_⟩
      exact ⟨ks ++ [r], (sd * 31 + r) % 1009, _, _, _, _, rfl, Rz.Same.upd R hd, by rw [upd_same, List.map_append]; rfl, by rw [List.length_append, List.length_singleton]; omega, b0, b1⟩
    · refine ⟨60, rfl, by decide, by decide, for_range (n := 60) (fun j σ H2 => ∃ (ks2 : List Int) (r2 : Int) (v5 : Option V), σ = [some (.ref a), some (.ref d), some (.int ((sd * 31 + r) % 1009)), some (.int u), some (.int r2), v5, v6] ∧ Same H H2 ∧ H2 d = some (.lst (ks2.map V.int)) ∧ ks2.length ≤ i * 60 + j)
        ⟨ks, r, _, rfl, R, hK, by omega⟩ ?_ ?_⟩
      · rintro j σ2 H2 hj ⟨ks2, r2, v7, rfl, R2, hK2, hl2⟩
        refine ⟨_, rfl, _, _, rfl, rfl, _, rfl, ?_⟩
        refine ite2 (fun _ => ?_) (fun _ => ?_)
        · refine ⟨_, rfl, .inl ⟨rfl, _, SqL.of hK2⟩, _, rfl, .inl ⟨_, rfl, _, _, rfl, rfl, (by show (0 : Int) < 1000; decide), d, _, _, rfl, rfl, hK2, (by rw [List.length_map, sizeLine_eq]; omega), ?_⟩⟩
          refine ⟨_, rfl, _, _, rfl, rfl, ⟨by decide, by decide⟩, ?_⟩
          exact ⟨ks2 ++ [r2 % 1000], _, _, rfl, Rz.Same.upd R2 hd, by rw [upd_same, List.map_append]; rfl, by rw [List.length_append, List.length_singleton]; omega⟩
        · exact ⟨ks2, r2, _, rfl, R2, hK2, by omega⟩
      · rintro σ2 H2 ⟨ks2, r2, v7, rfl, R2, hK2, hl2⟩
        exact ⟨ks2, (sd * 31 + r) % 1009, _, _, _, _, rfl, R2, hK2, by omega, b0, b1⟩
  · rintro σ H' ⟨ks, sd, v3, v4, v5, v6, rfl, R, hK, hl, h0, h1⟩
    rw [List.length_map] at hl
    refine ⟨90, rfl, by decide, by decide, for_range (n := 90) (fun j σ H2 => ∃ (ks2 : List Int) (v5 v6 : Option V), σ = [some (.ref a), some (.ref d), some (.int sd), v3, v4, v5, v6] ∧ Same H H2 ∧ H2 d = some (.lst (ks2.map V.int)) ∧ ks2.length ≤ 3780 + j)
      ⟨ks, _, _, rfl, R, hK, by omega⟩ ?_ ?_⟩
    · rintro j σ2 H2 hj ⟨ks2, v7, v8, rfl, R2, hK2, hl2⟩
      refine ⟨_, rfl, _, _, rfl, rfl, _, rfl, _, _, rfl, rfl, .inl ⟨by decide, by decide⟩, _, rfl, _, _, rfl, rfl, .inl ⟨by omega, by omega⟩, _, rfl, _, _, rfl, rfl, .inl ⟨by decide, by decide⟩, _, _, rfl, rfl,
        _, _, rfl, rfl, ⟨by decide, by decide⟩, _, _, rfl, rfl, _, _, rfl, rfl, .inl ⟨by omega, by omega⟩, .inl ⟨_, rfl, _, _, rfl, rfl, (by show (0 : Int) < 1009; decide), ?_⟩⟩
      have m0 : ∀ z : Int, -(2 ^ 64) < z % 1009 ∧ z % 1009 < 2 ^ 64 := fun z => by omega
      refine ⟨_, rfl, .inl ⟨rfl, _, SqL.of hK2⟩, _, rfl, _, rfl, _, _, rfl, rfl, .inl (m0 _), _, rfl, _, _, rfl, rfl, .inl ⟨_, rfl, _, _, rfl, rfl, (by show (0 : Int) < 1013; decide), d, _, _, rfl, rfl, hK2, (by rw [List.length_map, sizeLine_eq]; omega), ?_⟩⟩
      exact ⟨ks2 ++ [_], _, _, rfl, Rz.Same.upd R2 hd, by rw [upd_same, List.map_append]; rfl, by rw [List.length_append, List.length_singleton]; omega⟩
    · rintro σ2 H2 ⟨ks2, v7, v8, rfl, R2, hK2, hl2⟩
      exact ⟨_, rfl, k H2 d R2 hd ⟨ks2, hK2, by omega⟩⟩
end
end Rz

namespace Rz
open PySem PySem.Spec PyProof.Rows L2
def sp_law_pick : Sp := fun vs H Q _ => ∃ (d : Addr) (m : Int), vs = [.ref d, .int m] ∧ 0 < m ∧ Dr H d ∧ ∀ H' r, 0 ≤ r → r < m → Dr H' d → But [d] H H' → Q (.int r) H'
section
variable {w : World} {K : PySem.W.Frag} {mg : Str → Option Value} {base : Heap}
theorem sc_law_pick : FnScope N__law_pick P__law_pick (defScope s__law_pick) := ⟨rfl, rfl, rfl, by decide +kernel, rfl, by decide +kernel, by decide +kernel⟩
theorem ok_law_pick (T : Txt K mg) : FnOk prg w K mg base (L2.CX prg w) 1 T.f__law_pick T.fd__law_pick P__law_pick sp_law_pick := by
  refine Rz.Fun.okN T.F__law_pick sc_law_pick (fun vs H Q E h => ?_) (fun cdv A outer s H vs Q E hr h => ?_)
  · obtain ⟨d, m, rfl, _⟩ := h
    rfl
  obtain ⟨d, m, rfl, hm, ⟨ns, hd, hl⟩, k⟩ := h
  have nd := sc_law_pick.nd
  refine ⟨_, (pss_cons (ps_if (pt_cmpR (op_eqD hr.units) (pv 0) (pe_lst pa_nil) (nomark _)) (pss_one (ps_ret pe_int)) pss_nil)
    (pss_one (ps_ret (pe_op op_mod (pe_callTy call_int1 (by rfl) T.n_int (by decide +kernel) (pa_cons (pe_bm PySem.F.plainAttrs_list PySem.F.slot_list_pop PySem.F.type_list_pop mt_popAt (pv 0) (pa_cons pe_int pa_nil)) pa_nil)) (pv 1))))), ?_⟩
  refine ⟨_, rfl, Nat.zero_le _, fun p hp => ?_⟩
  have np : d ≠ p := ne_of_none hd hp
  have hd2 : upd H p (.lst []) d = some (.lst (ns.map V.int)) := by rw [upd_ne np]; exact hd
  refine ⟨dInts ns, dInts [], dp_ints (SqL.of hd2), dp_ints (SqL.of upd_same), ints_shaped _, ints_shaped _, _, rfl, ?_⟩
  rw [ints_eqv]
  refine ite2 (fun e => ?_) (fun e => ?_)
  · exact k _ 0 (Int.le_refl _) hm ⟨ns, hd2, hl⟩ ((But.refl [d] H).upd (.inr hp))
  · have e2 : ns ≠ [] := fun z => e (decide_eq_true z)
    obtain ⟨x, r, rfl⟩ := List.exists_cons_of_ne_nil e2
    refine ⟨_, rfl, .inl ⟨rfl, _, SqL.of hd2⟩, d, _, 0, 0, .int x, rfl, rfl, hd2, by decide, by decide, (by simp [seqIndex?]), rfl, .inl ⟨x, rfl, ?_⟩⟩
    refine ⟨_, rfl, x, m, rfl, rfl, hm, ?_⟩
    refine k _ _ (Int.emod_nonneg _ (by omega)) (Int.emod_lt_of_pos _ hm) ⟨r, by rw [upd_same]; rfl, by simp at hl; omega⟩ (((But.refl [d] H).upd (.inr hp)).upd (.inl (by simp)))
end
end Rz

namespace Rz
open PySem PySem.Spec PyProof.Rows L2
/-- some of the letters, each once -/
def sp_law_alphabet : Sp := fun vs H Q _ => ∃ (d : Addr) (n : Int), vs = [.ref d, .int n] ∧ 0 ≤ n ∧ n ≤ 20 ∧ Dr H d ∧ ∀ H' (z : Str), (z.length : Int) = n → Over abc z → Dr H' d → But [d] H H' → Q (.str z) H'
section
variable {w : World} {K : PySem.W.Frag} {mg : Str → Option Value} {base : Heap}
theorem sc_law_alphabet : FnScope N__law_alphabet P__law_alphabet (defScope s__law_alphabet) := ⟨rfl, rfl, rfl, by decide +kernel, rfl, by decide +kernel, by decide +kernel⟩
theorem abc_nodup : abc.cps.toList.Nodup := by decide +kernel
theorem ok_law_alphabet (T : Txt K mg) : FnOk prg w K mg base (L2.CX prg w) 2 T.f__law_alphabet T.fd__law_alphabet P__law_alphabet sp_law_alphabet := by
  refine Rz.Fun.okN T.F__law_alphabet sc_law_alphabet (fun vs H Q E h => ?_) (fun cdv A outer s H vs Q E hr h => ?_)
  · obtain ⟨d, n, rfl, _⟩ := h
    rfl
  obtain ⟨d, n, rfl, n0, n1, hD, k⟩ := h
  have nd := sc_law_alphabet.nd
  refine ⟨_, (pss_cons (ps_set (i := 2) nd rfl (Or.inl rfl) pe_str)
    (pss_cons (ps_set (i := 3) nd rfl (Or.inr rfl) pe_str)
    (pss_cons (ps_for PassesOwn.never rfl (pi_range1 rfl T.n_range (pa_cons (pv 1) pa_nil)) (pg_name (i := 4) nd rfl (Or.inl rfl))
      (pss_cons (ps_setLc (i := 6) (own := [("_law_letter", 5)]) (g := (gName 5)) (tt := _) rfl nd rfl rfl (sw_true rfl rfl rfl (by decide +kernel)) (pi_str (pv 2)) (blkOk_by (N := N__law_alphabet) (sc := defScope s__law_alphabet) (by decide +kernel)) (fun _ _ _ _ _ => (pg_name (i := 5) nd rfl (Or.inl rfl))) (fun _ _ _ _ _ => (pts_one (pt_cmpR op_notIn_sign (pv 5) (pv 3) rfl))) (fun _ _ _ _ _ => (pv 5)))
      (pss_one (ps_set (i := 3) nd rfl (Or.inr rfl) (pe_op op_add_str (pv 3) (pe_ix ix_list (pv 6) (pe_fn (ok_law_pick T) (hr.mono (by decide)) (by rfl) T.m__law_pick T.F__law_pick.kp T.b__law_pick .nil (fun _ => atN _) (pa_cons (pv 0) (pa_cons (pe_callB call_len_seq (by rfl) T.n_len PySem.boot_len (pa_cons (pv 6) pa_nil)) pa_nil))) (fun _ _ => rfl)))))))
    (pss_one (ps_ret (pv 3)))))), ?_⟩
  refine ⟨_, rfl, n, rfl, by omega, by omega, for_range (n := n.toNat) (fun i σ H' => ∃ (v4 v5 v6 : Option V) (z : Str), σ = [some (.ref d), some (.int n), some (.str abc), some (.str z), v4, v5, v6] ∧ z.length = i ∧ Over abc z ∧ Dr H' d ∧ But [d] H H') ?_ ?_ ?_⟩
  · exact ⟨none, none, none, "", rfl, rfl, (fun c hc => by cases hc), hD, But.refl _ _⟩
  · rintro i σ H1 hi ⟨v4, v5, v6, z, rfl, hz, ho, D1, B1⟩
    refine ⟨_, rfl, abc, rfl, fun D hDn => lc_it walk_str (fun i H2 => ∃ ys : List Nat, H2 D = some (.lst (ys.map fun c => V.str ⟨#[c]⟩)) ∧ ys = (abc.cps.toList.take i).filter (fun c => !decide (c ∈ z.cps.toList)) ∧ Same H1 H2) ?_ (fun _ _ _ _ => True.intro) ?_ ?_⟩
    · exact ⟨[], upd_same, rfl, Rz.Same.new (Same.refl _) hDn⟩
    · rintro j x H2 H3 hj ⟨ys, e, ey, S⟩ ⟨rfl, c, hc, rfl⟩
      have hc' : abc.cps.toList[j]? = some c := by
        rw [← hc]
        exact Array.getElem?_toList ..
      have et : abc.cps.toList.take (j + 1) = abc.cps.toList.take j ++ [c] := by rw [List.take_add_one, hc']; rfl
      have lys : ys.length ≤ 26 := by
        rw [ey]
        refine Nat.le_trans (List.length_filter_le ..) ?_
        rw [List.length_take]
        exact Nat.le_trans (Nat.min_le_right ..) (by decide +kernel)
      refine ⟨rfl, _, rfl, _, rfl, c, z, rfl, rfl, _, rfl, ?_⟩
      refine ite2 (fun hb => ?_) (fun hb => ?_)
      · refine ⟨_, rfl, _, e, by rw [List.length_map, sizeLine_eq]; omega, ys ++ [c], by rw [upd_same, List.map_append]; rfl, ?_, Rz.Same.upd S hDn⟩
        rw [et, List.filter_append, ey]
        simp only [List.filter_cons, List.filter_nil]
        rw [if_pos hb]
      · refine ⟨ys, e, ?_, S⟩
        rw [et, List.filter_append, ey]
        simp only [List.filter_cons, List.filter_nil]
        rw [if_neg hb, List.append_nil]
    · rintro H2 ⟨ys, e, ey, S⟩
      have eall : abc.cps.toList.take abc.cps.size = abc.cps.toList := List.take_of_length_le (Nat.le_refl _)
      rw [eall] at ey
      have pos : 0 < ys.length := by
        refine Nat.pos_of_ne_zero fun h0 => ?_
        have h1 : ys = [] := List.length_eq_zero_iff.mp h0
        have h2 := nodup_le abc_nodup (z := z.cps.toList) fun x hx => Classical.byContradiction fun hn => by
          have h3 : x ∈ ys := by
            rw [ey]
            exact List.mem_filter.mpr ⟨hx, by simp [hn]⟩
          rw [h1] at h3
          cases h3
        have h4 : abc.cps.toList.length = 26 := by decide +kernel
        rw [h4, len_list] at h2
        omega
      have nDd : D ≠ d := Ne.symm (apartNew D1.some hDn)
      refine ⟨_, rfl, _, rfl, _, rfl, _, rfl, D, _, rfl, .inl (SqL.of e), d, _, rfl, by rw [List.length_map]; omega, D1.same S, fun H3 r r0 r1 D3 B3 => ?_⟩
      have e3 := B3.at e (nin1 nDd)
      obtain ⟨v, hv, hat⟩ := atI_in r0 r1
      obtain ⟨c, hc, rfl⟩ := List.mem_map.mp hv
      refine ⟨D, _, r, _, rfl, rfl, SqL.of e3, hat, z, ⟨#[c]⟩, rfl, rfl, by show z.length + 1 ≤ _; rw [sizeLine_eq]; omega, ?_⟩
      refine ⟨_, _, _, z ++ ⟨#[c]⟩, rfl, by rw [Str.length_append]; show z.length + 1 = _; omega, fun x hx => ?_, D3, fun b o hb he => B3 b o hb ((S _ _ (B1 b o hb he)))⟩
      have hx2 : x ∈ z.cps.toList ++ [c] := by
        have e5 : (z ++ ⟨#[c]⟩ : Str).cps.toList = z.cps.toList ++ [c] := by
          show (z.cps ++ #[c]).toList = _
          rw [Array.toList_append]
        rw [← e5]
        exact hx
      rcases List.mem_append.mp hx2 with h | h
      · exact ho x h
      · have e6 : x = c := by simpa using h
        rw [e6]
        rw [ey] at hc
        exact (List.mem_filter.mp hc).1
  · rintro σ H1 ⟨v4, v5, v6, z, rfl, hz, ho, D1, B1⟩
    exact ⟨_, rfl, k H1 z (by omega) ho D1 B1⟩
end
end Rz

namespace Rz
open PySem PySem.Spec PyProof.Rows L2
/-- some word over the signs of z, not longer than g -/
def sp_law_word_of : Sp := fun vs H Q _ => ∃ (d : Addr) (z : Str) (l g : Int), vs = [.ref d, .str z, .int l, .int g] ∧ 0 ≤ l ∧ l ≤ g ∧ g ≤ 1000 ∧ 0 < z.length ∧ z.length ≤ 1000 ∧ Dr H d ∧
  ∀ H' (x : Str), (l : Int) ≤ x.length → (x.length : Int) ≤ g → Over z x → Dr H' d → But [d] H H' → Q (.str x) H'
section
variable {w : World} {K : PySem.W.Frag} {mg : Str → Option Value} {base : Heap}
theorem sc_law_word_of : FnScope N__law_word_of P__law_word_of (defScope s__law_word_of) := ⟨rfl, rfl, rfl, by decide +kernel, rfl, by decide +kernel, by decide +kernel⟩
theorem ok_law_word_of (T : Txt K mg) : FnOk prg w K mg base (L2.CX prg w) 2 T.f__law_word_of T.fd__law_word_of P__law_word_of sp_law_word_of := by
  refine Rz.Fun.okN T.F__law_word_of sc_law_word_of (fun vs H Q E h => ?_) (fun cdv A outer s H vs Q E hr h => ?_)
  · obtain ⟨d, z, l, g, rfl, _⟩ := h
    rfl
  obtain ⟨d, z, l, g, rfl, hl0, hlg, hg, hz0, hz, hD, k⟩ := h
  have nd := sc_law_word_of.nd
  refine ⟨_, (pss_cons (ps_set (i := 4) nd rfl (Or.inl rfl) (pe_op op_add (pv 2) (pe_fn (ok_law_pick T) (hr.mono (by decide)) (by rfl) T.m__law_pick T.F__law_pick.kp T.b__law_pick .nil (fun _ => atN _) (pa_cons (pv 0) (pa_cons (pe_op op_add (pe_op op_sub (pv 3) (pv 2)) pe_int) pa_nil)))))
    (pss_one (ps_ret (pe_join pe_str (pe_lc (own := [("_law_k", 5)]) (g := (gName 5)) (tt := tYes) rfl nd (pi_range1 rfl T.n_range (pa_cons (pv 4) pa_nil)) (blkOk_by (N := N__law_word_of) (sc := defScope s__law_word_of) (by decide +kernel)) (fun _ _ _ _ _ => (pg_name (i := 5) nd rfl (Or.inl rfl))) (fun _ _ _ _ _ => pts_nil)
      (fun _ _ _ _ _ => (pe_ix ix_str (pv 1) (pe_fn (ok_law_pick T) (hr.mono (by decide)) (by rfl) T.m__law_pick T.F__law_pick.kp T.b__law_pick .nil (fun _ => atN _) (pa_cons (pv 0) (pa_cons (pe_callB call_len_str (by rfl) T.n_len PySem.boot_len (pa_cons (pv 1) pa_nil)) pa_nil))) (fun _ _ => rfl)))))))), ?_⟩
  refine ⟨_, rfl, _, rfl, _, rfl, _, rfl, _, _, rfl, rfl, _, _, rfl, rfl, d, _, rfl, by omega, hD, fun H1 r h0 h1 D1 B1 => ⟨_, _, rfl, rfl, ?_⟩⟩
  refine ⟨⟨_, rfl⟩, _, rfl, l + r, rfl, by omega, by omega, fun D hDn => lc_range (lo := 0) (n := (l + r).toNat) (fun i H2 => ∃ ys : List Str, H2 D = some (.lst (ys.map V.str)) ∧ ys.length = i ∧ (∀ y ∈ ys, y.length = 1 ∧ Over z y) ∧ Dr H2 d ∧ But [d] H H2) ?_ ?_ ?_⟩
  · exact ⟨[], upd_same, rfl, (fun y hy => by cases hy), D1.same (Rz.Same.new (Same.refl _) hDn), B1.upd (.inr (B1.free (fun z => by
      obtain ⟨_, q, _⟩ := D1
      have e : D = d := by simpa using z
      rw [e, q] at hDn
      cases hDn) hDn))⟩
  · rintro i H2 hi ⟨ys, hY, hl, hy, D2, B2⟩
    refine ⟨rfl, yesT ⟨_, rfl, _, rfl, _, rfl, z, rfl, by rw [sizeLine_eq]; omega, d, _, rfl, by omega, D2, fun H3 r2 g0 g1 D3 B3 => ?_⟩⟩
    obtain ⟨c, hc, hat⟩ := atI_in (xs := z.cps.toList) g0 (by rw [len_list]; exact g1)
    have nDd : D ∉ [d] := fun z => by
      obtain ⟨_, q, _⟩ := D1
      have e : D = d := by simpa using z
      rw [e, q] at hDn
      cases hDn
    have hY3 := B3.at hY nDd
    have l3 : ys.length < sizeLine := by rw [sizeLine_eq]; omega
    refine ⟨z, _, c, rfl, rfl, by rw [sizeLine_eq]; omega, hat, _, hY3, by rw [List.length_map]; exact l3, ys ++ [⟨#[c]⟩], by rw [upd_same, List.map_append]; rfl, by rw [List.length_append, hl]; rfl, fun y h => ?_, ?_, ?_⟩
    · rcases List.mem_append.mp h with h | h
      · exact hy y h
      · have e : y = ⟨#[c]⟩ := by simpa using h
        subst e
        exact ⟨rfl, fun c2 h2 => by
          have e2 : c2 = c := by simpa using h2
          rw [e2]
          exact hc⟩
    · obtain ⟨ns, n1, n2⟩ := D3
      exact ⟨ns, by rw [upd_ne (fun z => nDd (by simp [z]))]; exact n1, n2⟩
    · exact (B2.trans B3).upd (.inr (B1.free nDd hDn))
  · rintro H2 ⟨ys, hY, hl, hy, D2, B2⟩
    have s1 := sum_ones fun y h => (hy y h).1
    refine ⟨_, D, ys, rfl, rfl, .inl (SqL.of hY), by show _ + ys.length * 0 ≤ _; omega, k H2 _ ?_ ?_ (over_join fun y h => (hy y h).2) D2 B2⟩
    · rw [join0_len]; omega
    · rw [join0_len]; omega
end
end Rz

namespace Rz
open PySem PySem.Spec PyProof.Rows L2
def sp_law_is_int : Sp := fun vs H Q _ => ∃ n : Int, vs = [.int n] ∧ Q (.bl true) H
section
variable {w : World} {K : PySem.W.Frag} {mg : Str → Option Value} {base : Heap}
theorem sc_law_is_int : FnScope N__law_is_int P__law_is_int (defScope s__law_is_int) := ⟨rfl, rfl, rfl, by decide +kernel, rfl, by decide +kernel, by decide +kernel⟩
theorem ok_law_is_int (T : Txt K mg) : FnOk prg w K mg base (L2.CX prg w) 1 T.f__law_is_int T.fd__law_is_int P__law_is_int sp_law_is_int := by
  refine Rz.Fun.okN T.F__law_is_int sc_law_is_int (fun vs H Q E h => ?_) (fun cdv A outer s H vs Q E hr h => ?_)
  · obtain ⟨n, rfl, _⟩ := h
    rfl
  obtain ⟨n, rfl, k⟩ := h
  refine ⟨_, (pss_one (ps_ret (pe_and (pe_callB call_isi (by rfl) T.n_isinstance (by decide +kernel) (pa_cons (pv 0) (pa_cons (pe_bltn (v := .ty "int") (by rfl) T.n_int (by decide +kernel) rfl) pa_nil))) (pe_one (pe_not (pe_callB call_isi (by rfl) T.n_isinstance (by decide +kernel) (pa_cons (pv 0) (pa_cons (pe_bltn (v := .ty "bool") (by rfl) T.n_bool (by decide +kernel) rfl) pa_nil)))))))), ?_⟩
  refine ⟨_, rfl, _, _, .type "int", .type "int", true, rfl, .ty _, .base (.int n), kit_ty (by decide +kernel), true, rfl, ?_⟩
  exact iteT ⟨_, rfl, _, _, .type "int", .type "bool", false, rfl, .ty _, .base (.int n), kit_ty (by decide +kernel), false, rfl, k⟩
end
end Rz

namespace Rz
open PySem PySem.Spec PyProof.Rows L2
theorem cutV_any {xs : List V} {i n : Nat} : cutV xs (some (i : Int)) (some ((i + n : Nat) : Int)) = (xs.drop i).take n := by
  have e1 : HT.sIx xs.length 0 (some (i : Int)) = min i xs.length := by
    unfold HT.sIx
    simp only
    rw [if_neg (by omega), Int.toNat_natCast]
  have e2 : HT.sIx xs.length xs.length (some ((i + n : Nat) : Int)) = min (i + n) xs.length := by
    unfold HT.sIx
    simp only
    rw [if_neg (by omega), Int.toNat_natCast]
  unfold cutV
  rw [e1, e2]
  by_cases h : i ≤ xs.length
  · rw [Nat.min_eq_left h]
    by_cases h2 : i + n ≤ xs.length
    · rw [Nat.min_eq_left h2, Nat.add_sub_cancel_left]
    · rw [Nat.min_eq_right (by omega), List.take_of_length_le (by rw [List.length_drop]; exact Nat.le_refl _), List.take_of_length_le (by rw [List.length_drop]; omega)]
  · rw [List.drop_of_length_le (show xs.length ≤ min i xs.length by omega), List.drop_of_length_le (show xs.length ≤ i by omega), List.take_nil, List.take_nil]
theorem any_go {K : PySem.W.Frag} {H : Hp} {l : Addr} {us : List Pr} {Q : VK} {i n : Nat} (hu : LAt H l us) (k : ∀ (p : Addr) (H' : Hp), H p = none → Same H H' → LAt H' p ((us.drop i).take n) → Q (.ref p) H') : rSlL K (.ref l) (some (i : Int)) (some ((i + n : Nat) : Int)) H Q := by
  obtain ⟨ts, e1, P1⟩ := hu
  refine ⟨l, _, rfl, SqL.of e1, fun p hp => ?_⟩
  have S := Rz.Same.new (o := .lst (cutV (ts.map V.ref) (some (i : Int)) (some ((i + n : Nat) : Int)))) (Same.refl H) hp
  exact k p _ hp S ⟨(ts.drop i).take n, by rw [upd_same, cutV_any, List.map_take, List.map_drop], ((P1.drop i).take n).keep (Tups.of S)⟩
theorem tx_eq {ps : List Pr} {z : Str} : tx ps = z ↔ ps.map (·.1) = z.cps.toList := by
  constructor
  · intro h
    rw [← h]
    rfl
  · intro h
    unfold tx
    rw [h]
/-- the part that the rule looks at -/
def partAt (ps : List Pr) (n : Nat) (i : Int) : List Pr := if 0 ≤ i then (ps.drop i.toNat).take n else []
theorem part_fit {ps : List Pr} {l : Str} {i : Int} (hl : l.cps.toList ≠ []) : decide (tx (partAt ps l.length i) = l) = fitAt (ps.map (·.1)) l.cps.toList i := by
  unfold partAt fitAt
  by_cases h : 0 ≤ i
  · rw [if_pos h, decide_eq_true h, Bool.true_and]
    by_cases e : ((ps.map (·.1)).drop i.toNat).take l.cps.toList.length = l.cps.toList
    · rw [decide_eq_true (tx_eq.mpr (by rw [List.map_take, List.map_drop]; exact e)), e]
      simp
    · rw [decide_eq_false (fun z => e (by have := tx_eq.mp z; rw [List.map_take, List.map_drop] at this; exact this)), beq_eq_false_iff_ne.mpr e]
  · rw [if_neg h, decide_eq_false h, Bool.false_and, decide_eq_false]
    intro z
    exact hl (tx_eq.mp z).symm
def sp_law_take (K : PySem.W.Frag) : Sp := fun vs H Q _ => ∃ (lp sd : Addr) (ps : List Pr) (l r : Str) (i : Int), vs = [.ref lp, .ref sd, .int i] ∧ LAt H lp ps ∧ H sd = some (.tup [.str l, .str r]) ∧ 1 ≤ l.length ∧ l.length ≤ 1000 ∧ r.length ≤ 1000 ∧ ps.length ≤ 1000 ∧
  (fitAt (ps.map (·.1)) l.cps.toList i = false → ∀ H', Same H H' → Q .non H') ∧
  (fitAt (ps.map (·.1)) l.cps.toList i = true → ∀ H' c, Same H H' → H c = none → LAt H' c (stepTo ps l.cps.toList r.cps.toList i.toNat) → Q (.ref c) H')
section
variable {w : World} {K : PySem.W.Frag} {mg : Str → Option Value} {base : Heap}
theorem sc_law_take : FnScope N__law_take P__law_take (defScope s__law_take) := ⟨rfl, rfl, rfl, by decide +kernel, rfl, by decide +kernel, by decide +kernel⟩
theorem ok_law_take (T : Txt K mg) : FnOk prg w K mg base (L2.CX prg w) 1 T.f__law_take T.fd__law_take P__law_take (sp_law_take K) := by
  refine Rz.Fun.okN T.F__law_take sc_law_take (fun vs H Q E h => ?_) (fun cdv A outer s H vs Q E hr h => ?_)
  · obtain ⟨lp, sd, ps, l, r, i, rfl, _⟩ := h
    rfl
  obtain ⟨lp, sd, ps, l, r, i, rfl, hL, hsd, l1, l2, r2, hz, kn, kg⟩ := h
  have nd := sc_law_take.nd
  have lne := str_ne l1
  refine ⟨_, (pss_cons (ps_set (i := 3) nd rfl (Or.inl rfl) (pe_ix ix_tup (pv 1) pe_int (fun _ _ => rfl)))
    (C8.pss_cut (ps_set (i := 4) nd rfl (Or.inl rfl) (pe_ifExp (pt_cmpR op_ge (pv 2) pe_int (nomark _)) (pe_slice sl_list (pv 0) (po_some (pv 2)) (po_some (pe_op op_add (pv 2) (pe_callB call_len_str (by rfl) T.n_len PySem.boot_len (pa_cons (pv 3) pa_nil))))) (pe_lst pa_nil)))
    (pss_cons (ps_if (pt_cmpR op_ne (pe_join pe_str (pe_lc (own := [("_law_sign", 5), ("_law_height", 6)]) (g := gTup K 2 (gCons (gName 5) (gCons (gName 6) gNil))) (tt := tYes) rfl nd (pi_list (pv 4)) (blkOk_by (N := N__law_take) (sc := defScope s__law_take) (by decide +kernel)) (fun _ _ _ _ _ => (pg_tup rfl (pgs_cons (pg_name (i := 5) nd rfl (Or.inl rfl)) (pgs_cons (pg_name (i := 6) nd rfl (Or.inl rfl)) pgs_nil)))) (fun _ _ _ _ _ => pts_nil) (fun _ _ _ _ _ => (pv 5)))) (pv 3) (nomark _)) (pss_one (ps_ret pe_non)) pss_nil)
    (pss_cons (ps_set (i := 7) nd rfl (Or.inr rfl) (pe_callB (cr_min (by rfl)) (by rfl) T.n_min (by decide +kernel) (pa_cons (pe_lc (own := [("_law_sign", 5), ("_law_height", 6)]) (g := gTup K 2 (gCons (gName 5) (gCons (gName 6) gNil))) (tt := tYes) rfl nd (pi_list (pv 4)) (blkOk_by (N := N__law_take) (sc := defScope s__law_take) (by decide +kernel)) (fun _ _ _ _ _ => (pg_tup rfl (pgs_cons (pg_name (i := 5) nd rfl (Or.inl rfl)) (pgs_cons (pg_name (i := 6) nd rfl (Or.inl rfl)) pgs_nil)))) (fun _ _ _ _ _ => pts_nil) (fun _ _ _ _ _ => (pv 6))) pa_nil)))
    (pss_one (ps_ret (pe_op op_cat (pe_op op_cat (pe_slice sl_list (pv 0) po_none (po_some (pv 2))) (pe_lc (own := [("_law_sign", 5)]) (g := (gName 5)) (tt := tYes) rfl nd (pi_str (pe_ix ix_tup (pv 1) pe_int (fun _ _ => rfl))) (blkOk_by (N := N__law_take) (sc := defScope s__law_take) (by decide +kernel)) (fun _ _ _ _ _ => (pg_name (i := 5) nd rfl (Or.inl rfl))) (fun _ _ _ _ _ => pts_nil) (fun _ _ _ _ _ => (pe_tup (pa_cons (pv 5) (pa_cons (pe_op op_add (pv 7) pe_int) pa_nil)))))) (pe_slice sl_list (pv 0) (po_some (pe_op op_add (pv 2) (pe_callB call_len_str (by rfl) T.n_len PySem.boot_len (pa_cons (pv 3) pa_nil)))) po_none)))))))), ?_⟩
  have hll : l.length ≤ sizeLine := by rw [sizeLine_eq]; omega
  refine ⟨_, rfl, sd, _, _, _, rfl, rfl, SqT.of hsd, rfl, ?_⟩
  refine ⟨fun σ H' => ∃ D, σ = [some (.ref lp), some (.ref sd), some (.int i), some (.str l), some (.ref D), none, none, none] ∧ Same H H' ∧ LAt H' D (partAt ps l.length i), ?_, ?_⟩
  · refine ⟨_, rfl, _, _, rfl, rfl, _, rfl, ?_⟩
    refine ite2 (fun h0 => ?_) (fun h0 => ?_)
    · have i0 : 0 ≤ i := of_decide_eq_true h0
      obtain ⟨n, rfl⟩ := Int.eq_ofNat_of_zero_le i0
      refine ⟨_, rfl, _, rfl, _, rfl, _, rfl, _, rfl, l, rfl, hll, _, _, rfl, rfl, _, rfl, any_go (i := n) (n := l.length) hL fun D H' fD S LD => ⟨D, rfl, S, ?_⟩⟩
      unfold partAt
      rw [if_pos i0, Int.toNat_natCast]
      exact LD
    · have i0 : ¬ 0 ≤ i := fun z => h0 (decide_eq_true z)
      refine ⟨Nat.zero_le _, fun D hD => ⟨D, rfl, Rz.Same.new (Same.refl H) hD, [], upd_same, ?_⟩⟩
      unfold partAt
      rw [if_neg i0]
      exact .nil
  rintro σ H1 ⟨D, rfl, S1, LD⟩
  have zpart : (partAt ps l.length i).length ≤ 1000 := by
    unfold partAt
    split
    · rw [List.length_take, List.length_drop]
      omega
    · exact Nat.zero_le _
  have pf := part_fit (ps := ps) (l := l) (i := i) lne
  generalize hpt : partAt ps l.length i = part at LD zpart pf
  obtain ⟨td, hd, _⟩ := id LD
  have zs : part.length ≤ sizeLine := by rw [sizeLine_eq]; omega
  refine ⟨⟨_, rfl⟩, _, rfl, D, rfl, ⟨_, SqL.of hd⟩, fun D2 hD2 => lc_pairs (K := K) (l := D) (ps := part) (fun q => .str ⟨#[q.1]⟩) LD zs hD2 ?_ ?_⟩
  · intro t q H2 Q2 _ S e c
    exact ⟨t, _, rfl, SqT.of e, rfl, _, _, rfl, _, _, rfl, rfl, rfl, _, rfl, c _ (Same.refl _)⟩
  intro H2 S2 e2
  have e2' : part.map (fun q => V.str ⟨#[q.1]⟩) = (part.map fun q => (⟨#[q.1]⟩ : Str)).map V.str := by rw [List.map_map]; rfl
  rw [e2'] at e2
  refine ⟨_, D2, _, rfl, rfl, .inl (SqL.of e2), ?_, ?_⟩
  · rw [sum_ones (fun y hy => by obtain ⟨q, _, rfl⟩ := List.mem_map.mp hy; rfl), List.length_map]
    show _ + _ * 0 ≤ _
    omega
  rw [join_signs]
  refine ⟨_, rfl, rfl, _, rfl, ?_⟩
  have ed : decide (V.str (tx part) = V.str l) = fitAt (ps.map (·.1)) l.cps.toList i := by
    rw [← pf]
    by_cases e : tx part = l
    · rw [decide_eq_true e, decide_eq_true (by rw [e])]
    · rw [decide_eq_false e, decide_eq_false (fun z => e (by injection z))]
  rw [ed]
  have S12 := S1.trans S2
  cases hf : fitAt (ps.map (·.1)) l.cps.toList i with
  | false => exact iteT (kn hf H2 S12)
  | true =>
    refine iteF ?_
    have i0 := (fit_iff.mp hf).1
    obtain ⟨n, rfl⟩ := Int.eq_ofNat_of_zero_le i0
    have hen := fit_len hf lne
    rw [Int.toNat_natCast, List.length_map, len_list] at hen
    have ept : part = (ps.drop n).take l.length := by
      rw [← hpt]
      unfold partAt
      rw [if_pos i0, Int.toNat_natCast]
    obtain ⟨te, he, _⟩ := id (LD.same S2)
    refine ⟨_, rfl, D, rfl, ⟨_, SqL.of he⟩, fun D3 hD3 => lc_pairs (K := K) (l := D) (ps := part) (fun q => .int q.2) (LD.same S2) zs hD3 ?_ ?_⟩
    · intro t q H3 Q2 _ S e c
      exact ⟨t, _, rfl, SqT.of e, rfl, _, _, rfl, _, _, rfl, rfl, rfl, _, rfl, c _ (Same.refl _)⟩
    intro H3 S3 e3
    have e3' : H3 D3 = some (.lst ((hts part).map V.int)) := by
      rw [e3]
      unfold hts
      rw [List.map_map]
      rfl
    refine ⟨D3, _, rfl, SqL.of e3', by rw [hts_len, ept, List.length_take, List.length_drop]; omega, fun mm hm hall => ?_⟩
    have emm : mm = leastAt ps n l.length := by
      rw [leastL_eq hm hall, ept]
      rfl
    subst emm
    have S13 := S12.trans S3
    clear hm hall e3 e3'
    refine ⟨_, rfl, _, rfl, n, rfl, to_go (hL.same S13) (by omega) fun c1 H4 f4 S4 C1 => ?_⟩
    refine ⟨_, rfl, sd, _, _, _, rfl, rfl, SqT.of ((S13.trans S4) _ _ hsd), rfl, r, rfl, fun D5 hD5 => lc_it walk_str (fun j H5 => Same H4 H5 ∧ LAt H5 D5 (fresh (r.cps.toList.take j) (1 + leastAt ps n l.length))) ⟨Rz.Same.new (Same.refl _) hD5, [], upd_same, .nil⟩ (fun _ _ _ _ => True.intro) ?_ ?_⟩
    · rintro j x H5 H6 hj ⟨S5, L5⟩ ⟨rfl, c, hc, rfl⟩
      have hc' : r.cps.toList[j]? = some c := by
        rw [← hc]
        exact Array.getElem?_toList ..
      have et : fresh (r.cps.toList.take (j + 1)) (1 + leastAt ps n l.length) = fresh (r.cps.toList.take j) (1 + leastAt ps n l.length) ++ [(c, 1 + leastAt ps n l.length)] := by
        rw [List.take_add_one, hc']
        unfold fresh
        rw [List.map_append]
        rfl
      obtain ⟨ts, e5, P5⟩ := id L5
      have l5 := P5.length
      rw [fresh_len, List.length_take] at l5
      refine ⟨rfl, yesT ⟨_, rfl, _, rfl, _, _, rfl, rfl, by show 2 ≤ sizeLine; decide, fun u hu => ?_⟩⟩
      have Su := Rz.Same.new (o := .tup [.str ⟨#[c]⟩, .int (leastAt ps n l.length + 1)]) (Same.refl H6) hu
      have nuD : u ≠ D5 := fun z => by rw [z, e5] at hu; cases hu
      refine ⟨_, Su _ _ e5, by rw [List.length_map, sizeLine_eq]; have : r.cps.toList.length = r.length := rfl; omega, Rz.Same.upd (S5.trans Su) hD5, ts ++ [u], by rw [upd_same, List.map_append]; rfl, ?_⟩
      rw [et]
      have T5 : Tups H6 (upd (upd H6 u (.tup [.str ⟨#[c]⟩, .int (leastAt ps n l.length + 1)])) D5 (.lst (ts.map V.ref ++ [.ref u]))) := Tups.upd (Tups.of Su) (not_tupL ⟨_, Su _ _ e5⟩)
      refine (P5.keep T5).append (.cons ?_ .nil)
      rw [upd_ne nuD, upd_same]
      show some (HO.tup [.str ⟨#[c]⟩, .int (leastAt ps n l.length + 1)]) = some (.tup [.str ⟨#[c]⟩, .int (1 + leastAt ps n l.length)])
      rw [Int.add_comm]
    rintro H6 ⟨S6, L6⟩
    have er : r.cps.toList.take r.cps.size = r.cps.toList := List.take_of_length_le (Nat.le_refl _)
    rw [er] at L6
    have lf : (fresh r.cps.toList (1 + leastAt ps n l.length)).length = r.length := fresh_len ..
    refine cat_go (C1.same S6) L6 (by rw [lf, List.length_take]; omega) fun c2 H7 f7 S7 C2 => ?_
    have S17 := (S13.trans S4).trans (S6.trans S7)
    refine ⟨_, rfl, _, rfl, _, rfl, l, rfl, hll, _, _, rfl, rfl, ?_⟩
    refine ⟨((n + l.length : Nat) : Int), rfl, from_go (i := n + l.length) (hL.same S17) hen fun c3 H8 f8 S8 C3 => cat_go (C2.same S8) C3 (by rw [List.length_append, lf, List.length_take, List.length_drop]; omega) fun c4 H9 f9 S9 C4 => ?_⟩
    exact kg hf H9 c4 (S17.trans (S8.trans S9)) ((S17.trans S8).free f9) C4
end
end Rz

namespace Rz
open PySem PySem.Spec PyProof.Rows L2
/-- the row has just these pairs: it is so told -/
def sp_law_shows (cR : Addr) : Sp := fun vs H Q _ => ∃ (p m l : Addr) (ps : List Pr), vs = [.ref p, .ref l] ∧ RAt cR H p m ps ∧ LAt H l ps ∧ GoodR ps ∧ ps.length ≤ 10000 ∧ ∀ H', Same H H' → Q (.bl true) H'
theorem code_le {c : Nat} (h : oddC c = false) : c ≤ 122 := by
  have m : c ∈ abc.cps.toList := by simpa [oddC] using h
  have e : ∀ x ∈ abc.cps.toList, x ≤ 122 := by decide +kernel
  exact e c m
abbrev dPr (p : Pr) : PyData := .tuple [.str ⟨#[p.1]⟩, .int p.2]
theorem dPr_shaped (p : Pr) (ho : oddC p.1 = false) : SeqAt.shaped (dPr p) = true := by
  have hlt := code_le ho
  show (PyData.canLayAll0 [PyData.str ⟨#[p.1]⟩, PyData.int p.2] && decide (PyData.depth (dPr p) ≤ 64)) = true
  have h : PyData.depth (dPr p) ≤ 64 := by
    show PyData.depthAll [PyData.str ⟨#[p.1]⟩, PyData.int p.2] + 1 ≤ 64
    simp [PyData.depthAll, PyData.depth]
  rw [decide_eq_true h]
  simp [PyData.canLayAll0, PyData.canLay0, PyData.strOk]
  omega
theorem dPr_eqv (p : Pr) : PyData.eqv (dPr p) (dPr p) = true := by
  show PyData.eqvAll _ _ = true
  simp [PyData.eqvAll, PyData.eqv]
theorem dPr_at {K : PySem.W.Frag} {H : Hp} {t : Addr} {p : Pr} (e : H t = some (.tup (prV p))) : Dp K H (.ref t) (dPr p) := .tup (SqT.of e) (.cons (.str _) (.cons (.int _) .nil))
theorem hts_at {ps : List Pr} {i : Nat} {q : Pr} (h : ps[i]? = some q) : ((hts ps).map V.int)[i]? = some (.int q.2) := by
  unfold hts
  rw [List.getElem?_map, List.getElem?_map, h]
  rfl
theorem PAt.at {H : Hp} : ∀ {ts : List Addr} {ps : List Pr} {i : Nat} {p : Pr}, PAt H ts ps → ps[i]? = some p → ∃ t, ts[i]? = some t ∧ H t = some (.tup (prV p))
  | _, _, i, p, .nil, h => by cases h
  | _, _, 0, p, .cons e r, h => by
    have z := Option.some.inj h
    subst z
    exact ⟨_, rfl, e⟩
  | _, _, i + 1, p, .cons e r, h => PAt.at (i := i) r (by simpa using h)
theorem ref_at {ts : List Addr} {i : Nat} {t : Addr} (h : ts[i]? = some t) : (ts.map V.ref)[i]? = some (.ref t) := by
  rw [List.getElem?_map, h]
  rfl
section
variable {w : World} {K : PySem.W.Frag} {mg : Str → Option Value} {base : Heap}
theorem sc_law_shows : FnScope N__law_shows P__law_shows (defScope s__law_shows) := ⟨rfl, rfl, rfl, by decide +kernel, rfl, by decide +kernel, by decide +kernel⟩
theorem ok_law_shows (T : Txt K mg) : FnOk prg w K mg base (L2.CX prg w) 6 T.f__law_shows T.fd__law_shows P__law_shows (sp_law_shows T.c_Row) := by
  refine Rz.Fun.okN T.F__law_shows sc_law_shows (fun vs H Q E h => ?_) (fun cdv A outer s H vs Q E hr h => ?_)
  · obtain ⟨p, m, l, ps, rfl, _⟩ := h
    rfl
  obtain ⟨p, m, l, ps, rfl, hR, hL, hg, hz, k⟩ := h
  have nd := sc_law_shows.nd
  refine ⟨_, (pss_cons (ps_if (PW.pt (pw_or (pt_not (pt_val (pe_callB (C8.call_isC T.is_Row) (by rfl) T.n_isinstance (by decide +kernel) (pa_cons (pv 0) (pa_cons (pe_glob (v := .ref T.c_Row) (by rfl) T.m_Row rfl) pa_nil))))) (pw_or (pt_not (pt_val (pe_callB call_isi (by rfl) T.n_isinstance (by decide +kernel) (pa_cons (pe_pr (pv 0) T.cl_Row T.M_Row_signs (ok_Row_signs T) (hr.mono (by decide)) T.b_Row_signs passN) (pa_cons (pe_bltn (v := .ty "str") (by rfl) T.n_str (by decide +kernel) rfl) pa_nil))))) (pw_or1 (pt_not (pt_val (pe_callB call_isi (by rfl) T.n_isinstance (by decide +kernel) (pa_cons (pe_pr (pv 0) T.cl_Row T.M_Row_heights (ok_Row_heights T) (hr.mono (by decide)) T.b_Row_heights passN) (pa_cons (pe_bltn (v := .ty "list") (by rfl) T.n_list (by decide +kernel) rfl) pa_nil))))))))) (pss_one (ps_ret pe_bl)) pss_nil)
    (pss_cons (ps_set (i := 2) nd rfl (Or.inl rfl) (pe_callTy (call_listR (by rfl) T.M_Row_iter (ok_Row_iter T) T.b_Row_iter T.M_Row_len (ok_Row_len T) T.b_Row_len (hr.mono (by decide))) (by rfl) T.n_list (by decide +kernel) (pa_cons (pv 0) pa_nil)))
    (pss_cons (ps_if (PW.pt (pw_or (pt_cmpR op_ne (pe_callB call_len_seq (by rfl) T.n_len PySem.boot_len (pa_cons (pv 2) pa_nil)) (pe_callB call_len_seq (by rfl) T.n_len PySem.boot_len (pa_cons (pv 1) pa_nil)) (nomark _)) (pw_or (pt_cmpR op_ne (pe_callB (call_lenO T.M_Row_len (ok_Row_len T) (hr.mono (by decide)) T.b_Row_len) (by rfl) T.n_len PySem.boot_len (pa_cons (pv 0) pa_nil)) (pe_callB call_len_seq (by rfl) T.n_len PySem.boot_len (pa_cons (pv 1) pa_nil)) (nomark _)) (pw_or1 (pt_cmpR op_ne (pe_callB call_len_seq (by rfl) T.n_len PySem.boot_len (pa_cons (pe_pr (pv 0) T.cl_Row T.M_Row_heights (ok_Row_heights T) (hr.mono (by decide)) T.b_Row_heights passN) pa_nil)) (pe_callB call_len_seq (by rfl) T.n_len PySem.boot_len (pa_cons (pv 1) pa_nil)) (nomark _)))))) (pss_one (ps_ret pe_bl)) pss_nil)
    (pss_cons (ps_for PassesOwn.never rfl (pi_range1 rfl T.n_range (pa_cons (pe_callB call_len_seq (by rfl) T.n_len PySem.boot_len (pa_cons (pv 1) pa_nil)) pa_nil)) (pg_name (i := 3) nd rfl (Or.inl rfl))
      (pss_cons (ps_if (PW.pt (pw_or (pt_not (pt_val (pe_callB call_isi (by rfl) T.n_isinstance (by decide +kernel) (pa_cons (pe_ix ix_list (pv 2) (pv 3) (fun _ _ => rfl)) (pa_cons (pe_bltn (v := .ty "tuple") (by rfl) T.n_tuple (by decide +kernel) rfl) pa_nil))))) (pw_or (pt_cmpR (op_neD hr.units) (pe_ix ix_list (pv 2) (pv 3) (fun _ _ => rfl)) (pe_ix ix_list (pv 1) (pv 3) (fun _ _ => rfl)) (nomark _)) (pw_or1 (pt_not (pt_val (pe_fn (ok_law_is_int T) (hr.mono (by decide)) (by rfl) T.m__law_is_int T.F__law_is_int.kp T.b__law_is_int .nil (fun _ => atN _) (pa_cons (pe_ix ix_tup (pe_ix ix_list (pv 2) (pv 3) (fun _ _ => rfl)) pe_int (fun _ _ => rfl)) pa_nil)))))))) (pss_one (ps_ret pe_bl)) pss_nil)
      (pss_one (ps_if (PW.pt (pw_or (pt_cmpR op_ne (pe_ix ix_list (pe_pr (pv 0) T.cl_Row T.M_Row_heights (ok_Row_heights T) (hr.mono (by decide)) T.b_Row_heights passN) (pv 3) (fun _ _ => rfl)) (pe_ix ix_tup (pe_ix ix_list (pv 1) (pv 3) (fun _ _ => rfl)) pe_int (fun _ _ => rfl)) (nomark _)) (pw_or1 (pt_not (pt_val (pe_fn (ok_law_is_int T) (hr.mono (by decide)) (by rfl) T.m__law_is_int T.F__law_is_int.kp T.b__law_is_int .nil (fun _ => atN _) (pa_cons (pe_ix ix_list (pe_pr (pv 0) T.cl_Row T.M_Row_heights (ok_Row_heights T) (hr.mono (by decide)) T.b_Row_heights passN) (pv 3) (fun _ _ => rfl)) pa_nil))))))) (pss_one (ps_ret pe_bl)) pss_nil))))
    (pss_cons (ps_if (PW.pt (pw_or (pt_cmpR op_ne (pe_pr (pv 0) T.cl_Row T.M_Row_signs (ok_Row_signs T) (hr.mono (by decide)) T.b_Row_signs passN) (pe_join pe_str (pe_lc (own := [("_law_pair", 4)]) (g := (gName 4)) (tt := tYes) rfl nd (pi_list (pv 1)) (blkOk_by (N := N__law_shows) (sc := defScope s__law_shows) (by decide +kernel)) (fun _ _ _ _ _ => (pg_name (i := 4) nd rfl (Or.inl rfl))) (fun _ _ _ _ _ => pts_nil) (fun _ _ _ _ _ => (pe_ix (show IxR _ (rIxT K) from ix_tup) (pv 4) pe_int (fun _ _ => rfl))))) (nomark _)) (pw_or1 (pt_not (pt_val (pe_fn (ok_law_is_int T) (hr.mono (by decide)) (by rfl) T.m__law_is_int T.F__law_is_int.kp T.b__law_is_int .nil (fun _ => atN _) (pa_cons (pe_callB (call_absO T.M_Row_abs (ok_Row_abs T) (hr.mono (by decide)) T.b_Row_abs) (by rfl) T.n_abs (by decide +kernel) (pa_cons (pv 0) pa_nil)) pa_nil))))))) (pss_one (ps_ret pe_bl)) pss_nil)
    (pss_one (ps_ret (pe_cmpR op_eq (pe_callB (call_absO T.M_Row_abs (ok_Row_abs T) (hr.mono (by decide)) T.b_Row_abs) (by rfl) T.n_abs (by decide +kernel) (pa_cons (pv 0) pa_nil)) (pe_callB (cr_max (by rfl)) (by rfl) T.n_max (by decide +kernel) (pa_cons (pe_op op_cat (pe_lst (pa_cons pe_int pa_nil)) (pe_lc (own := [("_law_pair", 4)]) (g := (gName 4)) (tt := tYes) rfl nd (pi_list (pv 1)) (blkOk_by (N := N__law_shows) (sc := defScope s__law_shows) (by decide +kernel)) (fun _ _ _ _ _ => (pg_name (i := 4) nd rfl (Or.inl rfl))) (fun _ _ _ _ _ => pts_nil) (fun _ _ _ _ _ => (pe_ix (show IxR _ (rIxT K) from ix_tup) (pv 4) pe_int (fun _ _ => rfl))))) pa_nil)) (nomark _))))))))), ?_⟩
  obtain ⟨dx, hp, hLm⟩ := id hR
  refine ⟨_, rfl, p, dx, _, rfl, hp, true, rfl, iteF ?_⟩
  refine ⟨_, rfl, p, dx, _, rfl, hp, p, m, ps, rfl, hR, by omega, fun H1 S1 => ?_⟩
  refine ⟨_, _, .type "str", .type "str", true, rfl, .ty _, .base (.str _), kit_ty (by decide +kernel), true, rfl, iteF ?_⟩
  have R1 := hR.same S1
  refine ⟨_, rfl, p, dx, _, rfl, S1 _ _ hp, p, m, ps, rfl, R1, by omega, fun H2 d2 S2 hd2 e2 => ?_⟩
  refine ⟨_, _, .type "list", .type "list", true, rfl, .ty _, .base (.lst e2), kit_ty (by decide +kernel), true, rfl, iteF ?_⟩
  have S02 := S1.trans S2
  have R2 := hR.same S02
  obtain ⟨tm, em, Pm⟩ := id (hLm.same S02)
  have lm := Pm.length
  refine ⟨_, rfl, p, dx, _, m, _, ps.length, rfl, S02 _ _ hp, SqL.of em, by omega, ?_, fun H3 R S3 q => ⟨p, m, ps, rfl, R2.same S3, q⟩, fun H3 R S3 q => ⟨p, m, ps, rfl, R2.same S3, q⟩, fun H3 q S3 hq eq => ?_⟩
  · show decide (ps.length > sizeLine) = false
    rw [decide_eq_false]
    rw [sizeLine_eq]
    omega
  have S03 := S02.trans S3
  have R3 := R2.same S3
  have L3 := hL.same S03
  obtain ⟨tl, el, Pl⟩ := id L3
  have ll := Pl.length
  refine ⟨_, rfl, q, _, rfl, .inl (SqL.of eq), _, rfl, l, _, rfl, .inl (SqL.of el), rfl, _, rfl, ?_⟩
  rw [List.length_map, List.length_map, lm, ll, decide_eq_true rfl]
  refine iteF ⟨_, rfl, p, dx, _, rfl, S03 _ _ hp, p, m, ps, rfl, R3, ps.length, rfl, by omega, _, rfl, l, _, rfl, .inl (SqL.of el), rfl, _, rfl, ?_⟩
  rw [List.length_map, ll, decide_eq_true rfl]
  refine iteF ⟨_, rfl, p, dx, _, rfl, S03 _ _ hp, p, m, ps, rfl, R3, by omega, fun H4 d4 S4 hd4 e4 => ⟨d4, _, rfl, .inl (SqL.of e4), _, rfl, l, _, rfl, .inl (SqL.of (S4 _ _ el)), rfl, _, rfl, ?_⟩⟩
  rw [List.length_map, List.length_map, hts_len, ll, decide_eq_true rfl]
  have S04 := S03.trans S4
  refine iteF ⟨_, rfl, l, _, rfl, .inl (SqL.of (S4 _ _ el)), _, rfl, by rw [List.length_map]; omega, by rw [List.length_map]; omega, for_range (n := (tl.map V.ref).length) (fun i σ H5 => ∃ v3 : Option V, σ = [some (.ref p), some (.ref l), some (.ref q), v3, none] ∧ Same H4 H5)
    ⟨none, rfl, Same.refl _⟩ ?_ ?_⟩
  · rintro i σ H5 hi ⟨v3, rfl, S5⟩
    have S05 := S04.trans S5
    rw [List.length_map, ll] at hi
    obtain ⟨pr, hpr⟩ : ∃ pr, ps[i]? = some pr := ⟨_, List.getElem?_eq_getElem hi⟩
    have Pm5 : PAt H5 tm ps := Pm.keep (Tups.of (S3.trans (S4.trans S5)))
    have Pl5 : PAt H5 tl ps := Pl.keep (Tups.of (S4.trans S5))
    obtain ⟨t, ht, et⟩ := Pm5.at hpr
    obtain ⟨u, hu, eu⟩ := Pl5.at hpr
    have eq5 := (S4.trans S5) _ _ eq
    have el5 := (S4.trans S5) _ _ el
    have at_q : ∀ {xs : List Addr} {y : Addr}, xs[i]? = some y → atI (xs.map V.ref) ((0 : Int) + i) = some (.ref y) := fun {xs y} h => by
      rw [Int.zero_add]
      exact atI_nat (ref_at h)
    refine ⟨_, rfl, _, rfl, q, _, _, _, rfl, rfl, SqL.of eq5, at_q ht, _, _, .type "tuple", .type "tuple", true, rfl, .ty _, .base (.tup et), kit_ty (by decide +kernel), true, rfl, iteF ?_⟩
    refine ⟨_, rfl, _, rfl, q, _, _, _, rfl, rfl, SqL.of eq5, at_q ht, _, rfl, _, rfl, l, _, _, _, rfl, rfl, SqL.of el5, at_q hu, dPr pr, dPr pr, dPr_at et, dPr_at eu, dPr_shaped pr (hg pr (List.mem_of_getElem? hpr)).1, dPr_shaped pr (hg pr (List.mem_of_getElem? hpr)).1, _, rfl, ?_⟩
    rw [dPr_eqv]
    refine iteF ⟨_, rfl, _, rfl, q, _, _, _, rfl, rfl, SqL.of eq5, at_q ht, t, _, _, _, rfl, rfl, SqT.of et, rfl, pr.2, rfl, true, rfl, iteF ?_⟩
    have R5 := hR.same S05
    refine ⟨_, rfl, p, dx, _, rfl, S05 _ _ hp, p, m, ps, rfl, R5, by omega, fun H6 d6 S6 hd6 e6 => ?_⟩
    have at_h : ∀ {H : Hp} {d : Addr}, H d = some (.lst ((hts ps).map V.int)) → atI ((hts ps).map V.int) ((0 : Int) + i) = some (.int pr.2) := fun {H d} _ => by
      rw [Int.zero_add]
      exact atI_nat (hts_at hpr)
    refine ⟨_, rfl, d6, _, _, _, rfl, rfl, SqL.of e6, at_h e6, _, rfl, _, rfl, l, _, _, _, rfl, rfl, SqL.of (S6 _ _ el5), at_q hu, u, _, _, _, rfl, rfl, SqT.of (S6 _ _ eu), rfl, rfl, _, rfl, ?_⟩
    rw [decide_eq_true rfl]
    refine iteF ⟨_, rfl, p, dx, _, rfl, (S05.trans S6) _ _ hp, p, m, ps, rfl, R5.same S6, by omega, fun H7 d7 S7 hd7 e7 => ?_⟩
    exact ⟨_, rfl, d7, _, _, _, rfl, rfl, SqL.of e7, at_h e7, pr.2, rfl, true, rfl, iteF ⟨_, rfl, S5.trans (S6.trans S7)⟩⟩
  · rintro σ H5 ⟨v3, rfl, S5⟩
    have S05 := S04.trans S5
    have zs : ps.length ≤ sizeLine := by rw [sizeLine_eq]; omega
    refine ⟨_, rfl, p, dx, _, rfl, S05 _ _ hp, p, m, ps, rfl, hR.same S05, by omega, fun H6 S6 => ?_⟩
    have S06 := S05.trans S6
    obtain ⟨t6, e6, P6⟩ := id (hL.same S06)
    refine ⟨⟨_, rfl⟩, _, rfl, l, rfl, ⟨_, SqL.of e6⟩, fun D hD => lc_pairs (K := K) (l := l) (ps := ps) (fun q => .str ⟨#[q.1]⟩) (hL.same S06) zs hD ?_ ?_⟩
    · intro t q H2 Q2 _ S e c
      exact ⟨rfl, _, rfl, t, _, _, _, rfl, rfl, SqT.of e, rfl, c _ (Same.refl _)⟩
    intro H7 S7 e7
    have e7' : ps.map (fun q => V.str ⟨#[q.1]⟩) = (ps.map fun q => (⟨#[q.1]⟩ : Str)).map V.str := by rw [List.map_map]; rfl
    rw [e7'] at e7
    refine ⟨_, D, _, rfl, rfl, .inl (SqL.of e7), ?_, ?_⟩
    · rw [sum_ones (fun y hy => by obtain ⟨q, _, rfl⟩ := List.mem_map.mp hy; rfl), List.length_map]
      show _ + _ * 0 ≤ _
      omega
    rw [join_signs]
    refine ⟨rfl, _, rfl, ?_⟩
    rw [decide_eq_true rfl]
    have S07 := S06.trans S7
    refine iteF ⟨_, rfl, p, dx, _, rfl, S07 _ _ hp, p, m, ps, rfl, hR.same S07, by omega, hg, fun H8 S8 => ⟨_, rfl, true, rfl, iteF ?_⟩⟩
    have S08 := S07.trans S8
    refine ⟨_, rfl, p, dx, _, rfl, S08 _ _ hp, p, m, ps, rfl, hR.same S08, by omega, hg, fun H9 S9 => ?_⟩
    have S09 := S08.trans S9
    refine ⟨by decide, fun z hz2 => ?_⟩
    have S9z := Rz.Same.new (o := .lst [.int 0]) S09 hz2
    obtain ⟨t9, e9, P9⟩ := id (hL.same S9z)
    refine ⟨_, rfl, l, rfl, ⟨_, SqL.of e9⟩, fun D2 hD2 => lc_pairs (K := K) (l := l) (ps := ps) (fun q => .int q.2) (hL.same S9z) zs hD2 ?_ ?_⟩
    · intro t q H2 Q2 _ S e c
      exact ⟨rfl, _, rfl, t, _, _, _, rfl, rfl, SqT.of e, rfl, c _ (Same.refl _)⟩
    intro H10 S10 e10
    have ez := S10 _ _ (show (upd H9 z (.lst [.int 0])) z = some (.lst [.int 0]) from upd_same)
    refine ⟨z, D2, _, _, rfl, rfl, ez, e10, ?_, fun w hw => ?_⟩
    · rw [List.length_map, sizeLine_eq]
      show 1 + ps.length ≤ _
      omega
    refine ⟨w, 0 :: hts ps, rfl, SqL.of ?_, by show 0 < (hts ps).length + 1; omega, fun mm hm hall => ⟨rfl, ?_⟩⟩
    · rw [upd_same]
      unfold hts
      rw [List.map_cons, List.map_map]
      rfl
    · rw [most_zero hm hall, decide_eq_true rfl]
      exact k _ (Rz.Same.new (S9z.trans S10) hw)
end
end Rz

namespace Rz
open PySem PySem.Spec PyProof.Rows L2
def sp_law_as_row (cR : Addr) : Sp := fun vs H Q _ => ∃ (l : Addr) (ps : List Pr), vs = [.ref l] ∧ LAt H l ps ∧ GoodR ps ∧ ps.length ≤ 100000 ∧ ∀ H' p m, Same H H' → H p = none → H m = none → RAt cR H' p m ps → Q (.ref p) H'
section
variable {w : World} {K : PySem.W.Frag} {mg : Str → Option Value} {base : Heap}
theorem sc_law_as_row : FnScope N__law_as_row P__law_as_row (defScope s__law_as_row) := ⟨rfl, rfl, rfl, by decide +kernel, rfl, by decide +kernel, by decide +kernel⟩
theorem ok_law_as_row (T : Txt K mg) : FnOk prg w K mg base (L2.CX prg w) 6 T.f__law_as_row T.fd__law_as_row P__law_as_row (sp_law_as_row T.c_Row) := by
  refine Rz.Fun.okN T.F__law_as_row sc_law_as_row (fun vs H Q E h => ?_) (fun cdv A outer s H vs Q E hr h => ?_)
  · obtain ⟨l, ps, rfl, _⟩ := h
    rfl
  obtain ⟨l, ps, rfl, hL, hg, hz, k⟩ := h
  have nd := sc_law_as_row.nd
  obtain ⟨ds, vd, bd⟩ := bd_Row_init_3 T
  cases vd
  refine ⟨_, (pss_one (ps_ret (pe_mk ⟨T.mk_Row, T.M_Row_init.at_, T.M_Row_init.fn, T.kp_Row⟩ (ok_Row_init T) (hr.mono (by decide)) (by rfl) T.m_Row bd .nil (fun _ => atN _) (pa_cons (pe_join pe_str (pe_lc (own := [("_law_pair", 1)]) (g := (gName 1)) (tt := tYes) rfl nd (pi_list (pv 0)) (blkOk_by (N := N__law_as_row) (sc := defScope s__law_as_row) (by decide +kernel)) (fun _ _ _ _ _ => (pg_name (i := 1) nd rfl (Or.inl rfl))) (fun _ _ _ _ _ => pts_nil) (fun _ _ _ _ _ => (pe_ix (show IxR _ (rIxT K) from ix_tup) (pv 1) pe_int (fun _ _ => rfl))))) (pa_cons (pe_lc (own := [("_law_pair", 1)]) (g := (gName 1)) (tt := tYes) rfl nd (pi_list (pv 0)) (blkOk_by (N := N__law_as_row) (sc := defScope s__law_as_row) (by decide +kernel)) (fun _ _ _ _ _ => (pg_name (i := 1) nd rfl (Or.inl rfl))) (fun _ _ _ _ _ => pts_nil) (fun _ _ _ _ _ => (pe_ix (show IxR _ (rIxT K) from ix_tup) (pv 1) pe_int (fun _ _ => rfl)))) pa_nil))))), ?_⟩
  obtain ⟨ts, hl, hP⟩ := id hL
  have zs : ps.length ≤ sizeLine := by rw [sizeLine_eq]; omega
  refine ⟨⟨_, rfl⟩, _, rfl, l, rfl, ⟨_, SqL.of hl⟩, fun D hD => lc_pairs (K := K) (l := l) (ps := ps) (fun q => .str ⟨#[q.1]⟩) hL zs hD ?_ ?_⟩
  · intro t q H2 Q2 _ S e c
    exact ⟨rfl, _, rfl, t, _, _, _, rfl, rfl, SqT.of e, rfl, c _ (Same.refl _)⟩
  intro H2 S2 e2
  have e2' : ps.map (fun q => V.str ⟨#[q.1]⟩) = (ps.map fun q => (⟨#[q.1]⟩ : Str)).map V.str := by rw [List.map_map]; rfl
  rw [e2'] at e2
  refine ⟨_, D, _, rfl, rfl, .inl (SqL.of e2), ?_, ?_⟩
  · rw [sum_ones (fun y hy => by obtain ⟨q, _, rfl⟩ := List.mem_map.mp hy; rfl), List.length_map]
    show _ + _ * 0 ≤ _
    omega
  rw [join_signs]
  have hL2 := hL.same S2
  refine ⟨_, rfl, l, rfl, ⟨_, SqL.of (S2 _ _ hl)⟩, fun D2 hD2 => lc_pairs (K := K) (l := l) (ps := ps) (fun q => .int q.2) hL2 zs hD2 ?_ ?_⟩
  · intro t q H3 Q2 _ S e c
    exact ⟨rfl, _, rfl, t, _, _, _, rfl, rfl, SqT.of e, rfl, c _ (Same.refl _)⟩
  intro H3 S3 e3
  have e3' : H3 D2 = some (.lst ((hts ps).map V.int)) := by
    rw [e3]
    unfold hts
    rw [List.map_map]
    rfl
  intro x dx hx hdx ndx
  have S03 := S2.trans S3
  have nxD : D2 ≠ x := ne_of_none e3' hx
  have ndD : D2 ≠ dx := ne_of_none e3' hdx
  have small : ∀ n ∈ hts ps, n.natAbs < 2 ^ 64 := fun n hn => by
    obtain ⟨q, hq, rfl⟩ := List.mem_map.mp hn
    have := (hg q hq).2
    omega
  refine ⟨x, dx, tx ps, _, hts ps, rfl, by rw [tx_len]; omega, upd_same, .inr ⟨D2, rfl, by rw [upd_ne nxD, upd_ne ndD]; exact e3', by rw [hts_len]; omega, small⟩, ?_⟩
  rw [rr_good hg, tx_hts_zip]
  intro H4 m B hm hR
  refine ⟨rfl, k H4 x m ?_ (S03.free hx) ?_ hR⟩
  · intro b o e
    have e1 := S03 _ _ e
    exact B b o (by have := ne_of_none e1 hx; simpa using this) (by rw [upd_ne (ne_of_none e1 hx), upd_ne (ne_of_none e1 hdx)]; exact e1)
  · cases q : H m with
    | none => rfl
    | some o =>
      have e1 := S03 _ _ q
      rw [upd_ne (ne_of_none e1 hx), upd_ne (ne_of_none e1 hdx), e1] at hm
      cases hm
end
end Rz

namespace Rz
open PySem PySem.Spec PyProof.Rows L2
/-- what is due of the step, told by lists -/
def DueR (H' : Hp) (t : Addr) (ps : List Pr) (l r : Str) (i : Int) : Prop :=
  (fitAt (ps.map (·.1)) l.cps.toList i = false → H' t = some (.tup [.str "mismatch", .int i])) ∧
  (fitAt (ps.map (·.1)) l.cps.toList i = true → (tooFar ps l r i 9 → H' t = some (.tup [.str "beyond", .int 10])) ∧ (¬ tooFar ps l r i 9 → ∃ c, H' t = some (.tup [.str "row", .ref c]) ∧ LAt H' c (stepTo ps l.cps.toList r.cps.toList i.toNat)))
def sp_law_due_of : Sp := fun vs H Q _ => ∃ (lp sd : Addr) (ps : List Pr) (l r : Str) (i : Int), vs = [.ref lp, .ref sd, .int i] ∧ LAt H lp ps ∧ H sd = some (.tup [.str l, .str r]) ∧ GoodR ps ∧ 1 ≤ l.length ∧ l.length ≤ 1000 ∧ r.length ≤ 1000 ∧ ps.length ≤ 1000 ∧
  ∀ H' t, Same H H' → DueR H' t ps l r i → Q (.ref t) H'
section
variable {w : World} {K : PySem.W.Frag} {mg : Str → Option Value} {base : Heap}
theorem sc_law_due_of : FnScope N__law_due_of P__law_due_of (defScope s__law_due_of) := ⟨rfl, rfl, rfl, by decide +kernel, rfl, by decide +kernel, by decide +kernel⟩
theorem ok_law_due_of (T : Txt K mg) : FnOk prg w K mg base (L2.CX prg w) 2 T.f__law_due_of T.fd__law_due_of P__law_due_of sp_law_due_of := by
  refine Rz.Fun.okN T.F__law_due_of sc_law_due_of (fun vs H Q E h => ?_) (fun cdv A outer s H vs Q E hr h => ?_)
  · obtain ⟨lp, sd, ps, l, r, i, rfl, _⟩ := h
    rfl
  obtain ⟨lp, sd, ps, l, r, i, rfl, hL, hsd, hg, l1, l2, r2, hz, k⟩ := h
  have nd := sc_law_due_of.nd
  have lne := str_ne l1
  have two : (2 : Nat) ≤ sizeLine := by decide
  have hll : l.length ≤ sizeLine := by rw [sizeLine_eq]; omega
  refine ⟨_, (pss_cons (ps_set (i := 3) nd rfl (Or.inl rfl) (pe_fn (ok_law_take T) (hr.mono (by decide)) (by rfl) T.m__law_take T.F__law_take.kp T.b__law_take .nil (fun _ => atN _) (pa_cons (pv 0) (pa_cons (pv 1) (pa_cons (pv 2) pa_nil)))))
    (pss_cons (ps_if (pt_cmp (pc_isN (pv 3)) rfl) (pss_one (ps_ret (pe_tup (pa_cons pe_str (pa_cons (pv 2) pa_nil))))) pss_nil)
    (pss_cons (ps_set (i := 5) nd rfl (Or.inl rfl) (pe_callB (cr_min (by rfl)) (by rfl) T.n_min (by decide +kernel) (pa_cons (pe_lc (own := [("_law_pair", 4)]) (g := (gName 4)) (tt := tYes) rfl nd (pi_list (pe_slice sl_list (pv 0) (po_some (pv 2)) (po_some (pe_op op_add (pv 2) (pe_callB call_len_str (by rfl) T.n_len PySem.boot_len (pa_cons (pe_ix ix_tup (pv 1) pe_int (fun _ _ => rfl)) pa_nil)))))) (blkOk_by (N := N__law_due_of) (sc := defScope s__law_due_of) (by decide +kernel)) (fun _ _ _ _ _ => (pg_name (i := 4) nd rfl (Or.inl rfl))) (fun _ _ _ _ _ => pts_nil) (fun _ _ _ _ _ => (pe_ix (show IxR _ (rIxT K) from ix_tup) (pv 4) pe_int (fun _ _ => rfl)))) pa_nil)))
    (pss_cons (ps_if (PW.pt (pw_and (pt_cmpR op_ne (pe_ix ix_tup (pv 1) pe_int (fun _ _ => rfl)) pe_str (nomark _)) (pw_and1 (pt_cmpR op_eq (pv 5) pe_int (nomark _))))) (pss_one (ps_ret (pe_tup (pa_cons pe_str (pa_cons pe_int pa_nil))))) pss_nil)
    (pss_one (ps_ret (pe_tup (pa_cons pe_str (pa_cons (pv 3) pa_nil))))))))), ?_⟩
  refine ⟨_, rfl, _, rfl, _, rfl, lp, sd, ps, l, r, i, rfl, hL, hsd, l1, l2, r2, hz, fun hf H1 S1 => ?_, fun hf H1 c S1 fc Lc => ?_⟩
  · refine ⟨_, rfl, _, rfl, iteT ⟨_, rfl, two, fun t ht => k _ t (Rz.Same.new S1 ht) ⟨fun _ => upd_same, fun z => ?_⟩⟩⟩
    rw [hf] at z
    cases z
  · refine ⟨_, rfl, _, rfl, iteF ?_⟩
    have i0 := (fit_iff.mp hf).1
    obtain ⟨n, rfl⟩ := Int.eq_ofNat_of_zero_le i0
    have hen := fit_len hf lne
    rw [Int.toNat_natCast, List.length_map, len_list] at hen
    have lg := leastAt_good (i := n) (n := l.length) hg hen (by omega)
    refine ⟨_, rfl, _, rfl, _, rfl, _, rfl, _, rfl, sd, _, _, _, rfl, rfl, SqT.of (S1 _ _ hsd), rfl, l, rfl, hll, _, _, rfl, rfl, _, rfl, ?_⟩
    refine any_go (i := n) (n := l.length) (hL.same S1) fun D H2 fD S2 LD => ?_
    have zD : ((ps.drop n).take l.length).length ≤ sizeLine := by rw [List.length_take, List.length_drop, sizeLine_eq]; omega
    obtain ⟨td, hd, _⟩ := id LD
    refine ⟨D, rfl, ⟨_, SqL.of hd⟩, fun D3 hD3 => lc_pairs (K := K) (l := D) (ps := (ps.drop n).take l.length) (fun q => .int q.2) LD zD hD3 ?_ ?_⟩
    · intro t q H3 Q2 _ S e c
      exact ⟨rfl, _, rfl, t, _, _, _, rfl, rfl, SqT.of e, rfl, c _ (Same.refl _)⟩
    intro H3 S3 e3
    have e3' : H3 D3 = some (.lst ((hts ((ps.drop n).take l.length)).map V.int)) := by
      rw [e3]
      unfold hts
      rw [List.map_map]
      rfl
    refine ⟨D3, _, rfl, SqL.of e3', by rw [hts_len, List.length_take, List.length_drop]; omega, fun mm hm hall => ?_⟩
    have emm : mm = leastAt ps n l.length := leastL_eq hm hall
    subst emm
    have S13 := S1.trans (S2.trans S3)
    have S23 := S2.trans S3
    have far : tooFar ps l r (n : Int) 9 ↔ (r ≠ "" ∧ leastAt ps n l.length = 9) := by
      unfold tooFar
      rw [Int.toNat_natCast]
      have e1 : r.cps.toList ≠ [] ↔ r ≠ "" := by
        constructor
        · intro h z
          exact h (by rw [z]; rfl)
        · intro h z
          refine h ?_
          obtain ⟨⟨cs⟩⟩ := r
          have e2 : cs = [] := z
          rw [e2]
          rfl
      rw [e1]
      constructor
      · rintro ⟨a, b⟩
        exact ⟨a, by omega⟩
      · rintro ⟨a, b⟩
        exact ⟨a, by omega⟩
    have kb : tooFar ps l r (n : Int) 9 → ∀ t, H3 t = none → Q (.ref t) (upd H3 t (.tup [.str "beyond", .int 10])) := fun f t ht => k _ t (Rz.Same.new S13 ht) ⟨fun z => (by rw [hf] at z; cases z), fun _ => ⟨fun _ => upd_same, fun z => absurd f z⟩⟩
    have kr : ¬ tooFar ps l r (n : Int) 9 → ∀ t, H3 t = none → Q (.ref t) (upd H3 t (.tup [.str "row", .ref c])) := fun f t ht => k _ t (Rz.Same.new S13 ht) ⟨fun z => (by rw [hf] at z; cases z), fun _ => ⟨fun z => absurd z f, fun _ => ⟨c, upd_same, (Lc.same S23).same (Rz.Same.new (Same.refl _) ht)⟩⟩⟩
    refine ⟨_, rfl, sd, _, _, _, rfl, rfl, SqT.of (S13 _ _ hsd), rfl, rfl, _, rfl, ?_⟩
    by_cases hr0 : r = ""
    · rw [decide_eq_true (show V.str r = V.str "" by rw [hr0])]
      exact iteF (iteF ⟨_, rfl, two, fun t ht => kr (fun z => (far.mp z).1 hr0) t ht⟩)
    · rw [decide_eq_false (show ¬ V.str r = V.str "" from fun z => hr0 (by injection z))]
      refine iteT ⟨_, rfl, rfl, _, rfl, ?_⟩
      by_cases h9 : leastAt ps n l.length = 9
      · rw [decide_eq_true (show V.int (leastAt ps n l.length) = V.int 9 by rw [h9])]
        exact iteT ⟨two, fun t ht => kb (far.mpr ⟨hr0, h9⟩) t ht⟩
      · rw [decide_eq_false (show ¬ V.int (leastAt ps n l.length) = V.int 9 from fun z => h9 (by injection z))]
        exact iteF ⟨_, rfl, two, fun t ht => kr (fun z => h9 (far.mp z).2) t ht⟩
end
end Rz

namespace Rz
open PySem PySem.Spec PyProof.Rows L2
/-- what was told of the step -/
def TolR (cR : Addr) (H H' : Hp) (t : Addr) (ps : List Pr) (l r : Str) (i : Int) : Prop :=
  (fitAt (ps.map (·.1)) l.cps.toList i = false → H' t = some (.tup [.str "mismatch", .int i])) ∧
  (fitAt (ps.map (·.1)) l.cps.toList i = true → (tooFar ps l r i 9 → H' t = some (.tup [.str "beyond", .int 10])) ∧ (¬ tooFar ps l r i 9 → ∃ s ms, H s = none ∧ H ms = none ∧ H' t = some (.tup [.str "row", .ref s]) ∧ RAt cR H' s ms (stepTo ps l.cps.toList r.cps.toList i.toNat)))
theorem far9 {ps : List Pr} {l r : Str} {i : Int} (hg : GoodR ps) (l1 : 1 ≤ l.length) (hf : fitAt (ps.map (·.1)) l.cps.toList i = true) (h : tooFar ps l r i 9) : 1 + leastAt ps i.toNat l.length = 10 := by
  have hen := fit_len hf (str_ne l1)
  rw [List.length_map, len_list] at hen
  have lg := leastAt_good hg hen (by omega)
  have := h.2
  omega
def sp_law_done (cR cC : Addr) : Sp := fun vs H Q _ => ∃ (q p m : Addr) (l r : Str) (ps : List Pr) (i : Int), vs = [.ref q, .ref p, .int i] ∧ RuAt cC H q l r ∧ rd l r = .good ∧ RAt cR H p m ps ∧ GoodR ps ∧ ps.length ≤ 10000 ∧ i.natAbs < 2 ^ 60 ∧ ∀ H' t, Same H H' → TolR cR H H' t ps l r i → Q (.ref t) H'
section
variable {w : World} {K : PySem.W.Frag} {mg : Str → Option Value} {base : Heap}
theorem call_Rule (T : Txt K mg) : StX.CallO K T.c_Rule T.f_Rule_call := ⟨T.M_Rule_call.at_, T.M_Rule_call.fn, fn_inD T.D_Rule_call⟩
theorem sc_law_done : FnScope N__law_done P__law_done (defScope s__law_done) := ⟨rfl, rfl, rfl, by decide +kernel, rfl, by decide +kernel, by decide +kernel⟩
theorem ok_law_done (T : Txt K mg) : FnOk prg w K mg base (L2.CX prg w) 11 T.f__law_done T.fd__law_done P__law_done (sp_law_done T.c_Row T.c_Rule) := by
  refine T.F__law_done.okX sc_law_done (fun vs H Q E h => ?_) (fun cdv A outer s H vs Q E hr h => ?_)
  · obtain ⟨q, p, m, l, r, ps, i, rfl, _⟩ := h
    rfl
  obtain ⟨q, p, m, l, r, ps, i, rfl, hRu, hgd, hR, hg, hz, hi, k⟩ := h
  have nd := sc_law_done.nd
  have two : (2 : Nat) ≤ sizeLine := by decide
  obtain ⟨ds, vd, bd⟩ := bd_Rule_call_3 T
  cases vd
  refine ⟨_, (pss_cons (ps_try_mix rfl rfl takes0 (fun W pn xe tk _ => (pss_one (ps_set (i := 3) nd rfl (Or.inl rfl) (pe_inst (call_Rule T) (ok_Rule_call T) (hr.mono (by decide)) bd .nil (passAt tk) (pv 0) (pa_cons (pv 1) (pa_cons (pv 2) pa_nil))))))
      (HdsM.named (i := 4) nd rfl rfl ⟨rfl, by decide, .inl T.m_Mismatch⟩ (fun a oe cls d pn hz hf => (pss_one (ps_ret (pe_tup (pa_cons pe_str (pa_cons (pe_xf T.x_Mismatch.xf T.x_Mismatch.noN hz hf (pv 4)) pa_nil))))))
      (HdsM.named (i := 5) nd rfl rfl ⟨rfl, by decide, .inl T.m_Beyond⟩ (fun a oe cls d pn hz hf => (pss_one (ps_ret (pe_tup (pa_cons pe_str (pa_cons (pe_xf T.x_Beyond.xf T.x_Beyond.noN hz hf (pv 5)) pa_nil))))))
      HdsM.nil)))
    (pss_one (ps_ret (pe_tup (pa_cons pe_str (pa_cons (pv 3) pa_nil)))))), ?_⟩
  obtain ⟨_, _, l1, _, _⟩ := rd_good hgd
  obtain ⟨dq, hq⟩ := id hRu
  refine ⟨_, rfl, q, rfl, _, rfl, _, rfl, ⟨dq, _, hq⟩, q, p, i, rfl, q, p, m, l, r, ps, i, 9, rfl, hRu, hgd, hR, hg, hz, hi, by decide, by decide, fun hf H1 d S1 hd e => ?_, fun hf => ⟨fun far H1 d S1 hd e => ?_, fun nf H1 s1 m1 S1 fs fm R1 => ?_⟩⟩
  · refine ⟨true, T.em_Mismatch_Mismatch, fun _ a ha => ?_, fun z => nomatch z⟩
    exact ⟨_, rfl, rfl, rfl, d, _, _, rfl, e, rfl, two, fun t ht => k _ t (Rz.Same.new S1 ht) ⟨fun _ => upd_same, fun z => (by rw [hf] at z; cases z)⟩⟩
  · refine ⟨false, T.em_Beyond_Mismatch, (fun z => nomatch z), fun _ => ⟨true, T.em_Beyond_Beyond, fun _ a ha => ?_, fun z => nomatch z⟩⟩
    rw [far9 hg l1 hf far] at e
    exact ⟨_, rfl, rfl, rfl, d, _, _, rfl, e, rfl, two, fun t ht => k _ t (Rz.Same.new S1 ht) ⟨fun z => (by rw [hf] at z; cases z), fun _ => ⟨fun _ => upd_same, fun z => absurd far z⟩⟩⟩
  · exact ⟨_, rfl, two, fun t ht => k _ t (Rz.Same.new S1 ht) ⟨fun z => (by rw [hf] at z; cases z), fun _ => ⟨fun z => absurd z nf, fun _ => ⟨s1, m1, fs, fm, upd_same, R1.same (Rz.Same.new (Same.refl _) ht)⟩⟩⟩⟩
end
end Rz

namespace Rz
open PySem PySem.Spec PyProof.Rows L2
section
variable {w : World} {K : PySem.W.Frag} {mg : Str → Option Value} {base : Heap}
theorem kb_Rule_call (T : Txt K mg) : ∃ its : List Value, KBn K T.fd_Rule_call P_Rule_call 2 ["at"] (fun us ws => us ++ ws) (fun vs zs => vs ++ zs) := by
  obtain ⟨its, h⟩ := kbinds1 (ps := P_Rule_call) T.D_Rule_call 2 ["at"] (fun us _ ws => us ++ ws) (by simp) (fun r1 _ r3 => r1.append r3) fun _ _ _ _ _ _ _ us its ws h1 h2 h3 => match us, its, ws, h1, h2, h3 with | [_, _], [_], [_], _, _, _ => ⟨_, rfl, rfl⟩
  exact ⟨its, h⟩
theorem sc_law_done_named : FnScope N__law_done_named P__law_done_named (defScope s__law_done_named) := ⟨rfl, rfl, rfl, by decide +kernel, rfl, by decide +kernel, by decide +kernel⟩
theorem ok_law_done_named (T : Txt K mg) : FnOk prg w K mg base (L2.CX prg w) 11 T.f__law_done_named T.fd__law_done_named P__law_done_named (sp_law_done T.c_Row T.c_Rule) := by
  refine T.F__law_done_named.okX sc_law_done_named (fun vs H Q E h => ?_) (fun cdv A outer s H vs Q E hr h => ?_)
  · obtain ⟨q, p, m, l, r, ps, i, rfl, _⟩ := h
    rfl
  obtain ⟨q, p, m, l, r, ps, i, rfl, hRu, hgd, hR, hg, hz, hi, k⟩ := h
  have nd := sc_law_done_named.nd
  have two : (2 : Nat) ≤ sizeLine := by decide
  obtain ⟨its, bd⟩ := kb_Rule_call T
  refine ⟨_, (pss_cons (ps_try_mix rfl rfl takes0 (fun W pn xe tk _ => (pss_one (ps_set (i := 3) nd rfl (Or.inl rfl) (pe_instK (call_Rule T) (ok_Rule_call T) (hr.mono (by decide)) bd (passAt tk) (pv 0) (pa_cons (pv 1) pa_nil) (pk_cons (pv 2) pk_nil)))))
      (HdsM.named (i := 4) nd rfl rfl ⟨rfl, by decide, .inl T.m_Mismatch⟩ (fun a oe cls d pn hz hf => (pss_one (ps_ret (pe_tup (pa_cons pe_str (pa_cons (pe_xf T.x_Mismatch.xf T.x_Mismatch.noN hz hf (pv 4)) pa_nil))))))
      (HdsM.named (i := 5) nd rfl rfl ⟨rfl, by decide, .inl T.m_Beyond⟩ (fun a oe cls d pn hz hf => (pss_one (ps_ret (pe_tup (pa_cons pe_str (pa_cons (pe_xf T.x_Beyond.xf T.x_Beyond.noN hz hf (pv 5)) pa_nil))))))
      HdsM.nil)))
    (pss_one (ps_ret (pe_tup (pa_cons pe_str (pa_cons (pv 3) pa_nil)))))), ?_⟩
  obtain ⟨_, _, l1, _, _⟩ := rd_good hgd
  obtain ⟨dq, hq⟩ := id hRu
  refine ⟨_, rfl, q, rfl, _, rfl, _, rfl, ⟨dq, _, hq⟩, rfl, rfl, q, p, i, rfl, q, p, m, l, r, ps, i, 9, rfl, hRu, hgd, hR, hg, hz, hi, by decide, by decide, fun hf H1 d S1 hd e => ?_, fun hf => ⟨fun far H1 d S1 hd e => ?_, fun nf H1 s1 m1 S1 fs fm R1 => ?_⟩⟩
  · refine ⟨true, T.em_Mismatch_Mismatch, fun _ a ha => ?_, fun z => nomatch z⟩
    exact ⟨_, rfl, rfl, rfl, d, _, _, rfl, e, rfl, two, fun t ht => k _ t (Rz.Same.new S1 ht) ⟨fun _ => upd_same, fun z => (by rw [hf] at z; cases z)⟩⟩
  · refine ⟨false, T.em_Beyond_Mismatch, (fun z => nomatch z), fun _ => ⟨true, T.em_Beyond_Beyond, fun _ a ha => ?_, fun z => nomatch z⟩⟩
    rw [far9 hg l1 hf far] at e
    exact ⟨_, rfl, rfl, rfl, d, _, _, rfl, e, rfl, two, fun t ht => k _ t (Rz.Same.new S1 ht) ⟨fun z => (by rw [hf] at z; cases z), fun _ => ⟨fun _ => upd_same, fun z => absurd far z⟩⟩⟩
  · exact ⟨_, rfl, two, fun t ht => k _ t (Rz.Same.new S1 ht) ⟨fun z => (by rw [hf] at z; cases z), fun _ => ⟨fun z => absurd z nf, fun _ => ⟨s1, m1, fs, fm, upd_same, R1.same (Rz.Same.new (Same.refl _) ht)⟩⟩⟩⟩
end
end Rz

namespace Rz
open PySem PySem.Spec PyProof.Rows L2
def sp_law_done_first (cR cC : Addr) : Sp := fun vs H Q _ => ∃ (q p m : Addr) (l r : Str) (ps : List Pr), vs = [.ref q, .ref p] ∧ RuAt cC H q l r ∧ rd l r = .good ∧ RAt cR H p m ps ∧ GoodR ps ∧ ps.length ≤ 10000 ∧ ∀ H' t, Same H H' → TolR cR H H' t ps l r 0 → Q (.ref t) H'
section
variable {w : World} {K : PySem.W.Frag} {mg : Str → Option Value} {base : Heap}
theorem sc_law_done_first : FnScope N__law_done_first P__law_done_first (defScope s__law_done_first) := ⟨rfl, rfl, rfl, by decide +kernel, rfl, by decide +kernel, by decide +kernel⟩
theorem ok_law_done_first (T : Txt K mg) : FnOk prg w K mg base (L2.CX prg w) 11 T.f__law_done_first T.fd__law_done_first P__law_done_first (sp_law_done_first T.c_Row T.c_Rule) := by
  refine T.F__law_done_first.okX sc_law_done_first (fun vs H Q E h => ?_) (fun cdv A outer s H vs Q E hr h => ?_)
  · obtain ⟨q, p, m, l, r, ps, rfl, _⟩ := h
    rfl
  obtain ⟨q, p, m, l, r, ps, rfl, hRu, hgd, hR, hg, hz, k⟩ := h
  have hi : (0 : Int).natAbs < 2 ^ 60 := by decide
  have nd := sc_law_done_first.nd
  have two : (2 : Nat) ≤ sizeLine := by decide
  obtain ⟨ds, vd, bd⟩ := bd_Rule_call_2 T
  refine ⟨_, (pss_cons (ps_try_mix rfl rfl takes0 (fun W pn xe tk _ => (pss_one (ps_set (i := 2) nd rfl (Or.inl rfl) (pe_inst (call_Rule T) (ok_Rule_call T) (hr.mono (by decide)) bd vd (passAt tk) (pv 0) (pa_cons (pv 1) pa_nil)))))
      (HdsM.named (i := 3) nd rfl rfl ⟨rfl, by decide, .inl T.m_Mismatch⟩ (fun a oe cls d pn hz hf => (pss_one (ps_ret (pe_tup (pa_cons pe_str (pa_cons (pe_xf T.x_Mismatch.xf T.x_Mismatch.noN hz hf (pv 3)) pa_nil))))))
      (HdsM.named (i := 4) nd rfl rfl ⟨rfl, by decide, .inl T.m_Beyond⟩ (fun a oe cls d pn hz hf => (pss_one (ps_ret (pe_tup (pa_cons pe_str (pa_cons (pe_xf T.x_Beyond.xf T.x_Beyond.noN hz hf (pv 4)) pa_nil))))))
      HdsM.nil)))
    (pss_one (ps_ret (pe_tup (pa_cons pe_str (pa_cons (pv 2) pa_nil)))))), ?_⟩
  obtain ⟨_, _, l1, _, _⟩ := rd_good hgd
  obtain ⟨dq, hq⟩ := id hRu
  refine ⟨_, rfl, q, rfl, _, rfl, ⟨dq, _, hq⟩, q, p, 0, rfl, q, p, m, l, r, ps, 0, 9, rfl, hRu, hgd, hR, hg, hz, hi, by decide, by decide, fun hf H1 d S1 hd e => ?_, fun hf => ⟨fun far H1 d S1 hd e => ?_, fun nf H1 s1 m1 S1 fs fm R1 => ?_⟩⟩
  · refine ⟨true, T.em_Mismatch_Mismatch, fun _ a ha => ?_, fun z => nomatch z⟩
    exact ⟨_, rfl, rfl, rfl, d, _, _, rfl, e, rfl, two, fun t ht => k _ t (Rz.Same.new S1 ht) ⟨fun _ => upd_same, fun z => (by rw [hf] at z; cases z)⟩⟩
  · refine ⟨false, T.em_Beyond_Mismatch, (fun z => nomatch z), fun _ => ⟨true, T.em_Beyond_Beyond, fun _ a ha => ?_, fun z => nomatch z⟩⟩
    rw [far9 hg l1 hf far] at e
    exact ⟨_, rfl, rfl, rfl, d, _, _, rfl, e, rfl, two, fun t ht => k _ t (Rz.Same.new S1 ht) ⟨fun z => (by rw [hf] at z; cases z), fun _ => ⟨fun _ => upd_same, fun z => absurd far z⟩⟩⟩
  · exact ⟨_, rfl, two, fun t ht => k _ t (Rz.Same.new S1 ht) ⟨fun z => (by rw [hf] at z; cases z), fun _ => ⟨fun z => absurd z nf, fun _ => ⟨s1, m1, fs, fm, upd_same, R1.same (Rz.Same.new (Same.refl _) ht)⟩⟩⟩⟩
end
end Rz

namespace Rz
open PySem PySem.Spec PyProof.Rows L2
theorem step_good {ps : List Pr} {l r : Str} {i : Int} {most : Int} (hg : GoodR ps) (hgd : rd l r = .good) (m9 : most ≤ 9) (hf : fitAt (ps.map (·.1)) l.cps.toList i = true) (nf : ¬ tooFar ps l r i most) : GoodR (stepTo ps l.cps.toList r.cps.toList i.toNat) := by
  obtain ⟨_, fr, l1, _, _⟩ := rd_good hgd
  have hen := fit_len hf (str_ne l1)
  rw [List.length_map, len_list] at hen
  have lg := leastAt_good hg hen (by omega)
  refine good_cat (good_cat (good_take hg _) (fresh_good (fo_even fr) fun hr => ?_)) (good_drop hg _)
  have h1 : ¬ most < 1 + leastAt ps i.toNat l.length := fun z => nf ⟨hr, z⟩
  rw [len_list]
  omega
theorem step_len {ps : List Pr} {l r : Str} {i : Nat} : (stepTo ps l.cps.toList r.cps.toList i).length ≤ 2 * ps.length + r.length := by
  unfold stepTo
  rw [List.length_append, List.length_append, fresh_len, List.length_take, List.length_drop, len_list]
  omega
def sp_law_same (cR : Addr) : Sp := fun vs H Q _ => ∃ (t u : Addr) (H0 : Hp) (ps : List Pr) (l r : Str) (i : Int), vs = [.ref t, .ref u] ∧ GoodR ps ∧ ps.length ≤ 1000 ∧ rd l r = .good ∧ TolR cR H0 H t ps l r i ∧ DueR H u ps l r i ∧ ∀ H', Same H H' → Q (.bl true) H'
section
variable {w : World} {K : PySem.W.Frag} {mg : Str → Option Value} {base : Heap}
theorem sc_law_same : FnScope N__law_same P__law_same (defScope s__law_same) := ⟨rfl, rfl, rfl, by decide +kernel, rfl, by decide +kernel, by decide +kernel⟩
theorem ok_law_same (T : Txt K mg) : FnOk prg w K mg base (L2.CX prg w) 7 T.f__law_same T.fd__law_same P__law_same (sp_law_same T.c_Row) := by
  refine Rz.Fun.okN T.F__law_same sc_law_same (fun vs H Q E h => ?_) (fun cdv A outer s H vs Q E hr h => ?_)
  · obtain ⟨t, u, H0, ps, l, r, i, rfl, _⟩ := h
    rfl
  obtain ⟨t, u, H0, ps, l, r, i, rfl, hg, hz, hgd, ⟨t0, t1⟩, ⟨d0, d1⟩, k⟩ := h
  have nd := sc_law_same.nd
  refine ⟨_, (pss_cons (ps_if (pt_cmpR op_ne (pe_ix ix_tup (pv 0) pe_int (fun _ _ => rfl)) (pe_ix ix_tup (pv 1) pe_int (fun _ _ => rfl)) (nomark _)) (pss_one (ps_ret pe_bl)) pss_nil)
    (pss_cons (ps_if (pt_cmpR op_eq (pe_ix ix_tup (pv 1) pe_int (fun _ _ => rfl)) pe_str (nomark _)) (pss_one (ps_ret (pe_fn (ok_law_shows T) (hr.mono (by decide)) (by rfl) T.m__law_shows T.F__law_shows.kp T.b__law_shows .nil (fun _ => atN _) (pa_cons (pe_ix ix_tup (pv 0) pe_int (fun _ _ => rfl)) (pa_cons (pe_ix ix_tup (pv 1) pe_int (fun _ _ => rfl)) pa_nil))))) pss_nil)
    (pss_one (ps_ret (pe_and (pe_fn (ok_law_is_int T) (hr.mono (by decide)) (by rfl) T.m__law_is_int T.F__law_is_int.kp T.b__law_is_int .nil (fun _ => atN _) (pa_cons (pe_ix ix_tup (pv 0) pe_int (fun _ _ => rfl)) pa_nil)) (pe_one (pe_cmpR op_eq (pe_ix ix_tup (pv 0) pe_int (fun _ _ => rfl)) (pe_ix ix_tup (pv 1) pe_int (fun _ _ => rfl)) (nomark _)))))))), ?_⟩
  obtain ⟨_, _, _, _, r4⟩ := rd_good hgd
  cases hf : fitAt (ps.map (·.1)) l.cps.toList i with
  | false =>
    have e1 := t0 hf
    have e2 := d0 hf
    have hne : ¬ V.str "mismatch" = V.str "row" := by decide +kernel
    refine ⟨_, rfl, t, _, _, _, rfl, rfl, SqT.of e1, rfl, _, rfl, u, _, _, _, rfl, rfl, SqT.of e2, rfl, rfl, _, rfl, ?_⟩
    rw [decide_eq_true rfl]
    refine iteF ⟨_, rfl, u, _, _, _, rfl, rfl, SqT.of e2, rfl, rfl, _, rfl, ?_⟩
    rw [decide_eq_false hne]
    refine iteF ⟨_, rfl, t, _, _, _, rfl, rfl, SqT.of e1, rfl, _, rfl, true, rfl, iteT ⟨_, rfl, t, _, _, _, rfl, rfl, SqT.of e1, rfl, _, rfl, u, _, _, _, rfl, rfl, SqT.of e2, rfl, rfl, ?_⟩⟩
    rw [decide_eq_true rfl]
    exact k H (Same.refl H)
  | true =>
    obtain ⟨t2, t3⟩ := t1 hf
    obtain ⟨d2, d3⟩ := d1 hf
    by_cases far : tooFar ps l r i 9
    case' pos =>
      have e1 := t2 far
      have e2 := d2 far
      have hne : ¬ V.str "beyond" = V.str "row" := by decide +kernel
      refine ⟨_, rfl, t, _, _, _, rfl, rfl, SqT.of e1, rfl, _, rfl, u, _, _, _, rfl, rfl, SqT.of e2, rfl, rfl, _, rfl, ?_⟩
      rw [decide_eq_true rfl]
      refine iteF ⟨_, rfl, u, _, _, _, rfl, rfl, SqT.of e2, rfl, rfl, _, rfl, ?_⟩
      rw [decide_eq_false hne]
      refine iteF ⟨_, rfl, t, _, _, _, rfl, rfl, SqT.of e1, rfl, _, rfl, true, rfl, iteT ⟨_, rfl, t, _, _, _, rfl, rfl, SqT.of e1, rfl, _, rfl, u, _, _, _, rfl, rfl, SqT.of e2, rfl, rfl, ?_⟩⟩
      rw [decide_eq_true rfl]
      exact k H (Same.refl H)
    obtain ⟨s, ms, _, _, e1, R1⟩ := t3 far
    obtain ⟨c, e2, C2⟩ := d3 far
    refine ⟨_, rfl, t, _, _, _, rfl, rfl, SqT.of e1, rfl, _, rfl, u, _, _, _, rfl, rfl, SqT.of e2, rfl, rfl, _, rfl, ?_⟩
    rw [decide_eq_true rfl]
    refine iteF ⟨_, rfl, u, _, _, _, rfl, rfl, SqT.of e2, rfl, rfl, _, rfl, ?_⟩
    rw [decide_eq_true rfl]
    have zl := step_len (ps := ps) (l := l) (r := r) (i := i.toNat)
    exact iteT ⟨_, rfl, t, _, _, _, rfl, rfl, SqT.of e1, rfl, _, rfl, u, _, _, _, rfl, rfl, SqT.of e2, rfl, s, ms, c, _, rfl, R1, C2, step_good hg hgd (by decide) hf far, by omega, k⟩
end
end Rz

namespace Rz
open PySem PySem.Spec PyProof.Rows L2
def spLaw (K : PySem.W.Frag) : Sp := fun vs H Q _ => ∃ (a : Addr) (ns : List Int), vs = [.ref a] ∧ SqL K H a (ns.map V.int) ∧ ns.length ≤ 63 ∧ ∀ H', Q (.bl true) H'
theorem over_trans {x y z : Str} (h : Over y x) (g : Over z y) : Over z x := fun c hc => g c (h c hc)
theorem over_fo {z : Str} (h : Over abc z) : fo z = none := fo_none fun j c hj => by
  have := h c (List.mem_of_getElem? hj)
  simpa [oddC] using this
theorem app_list (x y : Str) : (x ++ y).cps.toList = x.cps.toList ++ y.cps.toList := by
  show (x.cps ++ y.cps).toList = _
  rw [Array.toList_append]
theorem over_app {x y z : Str} (h : Over z x) (g : Over z y) : Over z (x ++ y) := fun c hc => by
  rw [app_list] at hc
  exact (List.mem_append.mp hc).elim (h c) (g c)
theorem tolr_same {cR : Addr} {H H' H2 : Hp} {t : Addr} {ps : List Pr} {l r : Str} {i : Int} (h : TolR cR H H' t ps l r i) (S : Same H' H2) : TolR cR H H2 t ps l r i :=
  ⟨fun f => S _ _ (h.1 f), fun f => ⟨fun g => S _ _ ((h.2 f).1 g), fun g => let ⟨s, ms, a, b, c, d⟩ := (h.2 f).2 g; ⟨s, ms, a, b, S _ _ c, d.same S⟩⟩⟩
section
variable {w : World} {K : PySem.W.Frag} {mg : Str → Option Value} {base : Heap}
theorem sc_law : FnScope N_law P_law (defScope s_law) := ⟨rfl, rfl, rfl, by decide +kernel, rfl, by decide +kernel, by decide +kernel⟩
theorem ok_law (T : Txt K mg) : FnOk prg w K mg base (L2.CX prg w) 12 T.f_law T.fd_law P_law (spLaw K) := by
  refine Rz.Fun.okN T.F_law sc_law (fun vs H Q E h => ?_) (fun cdv A outer s H vs Q E hr h => ?_)
  · obtain ⟨a, ns, rfl, _⟩ := h
    rfl
  obtain ⟨a, ns, rfl, hS, hlen, k⟩ := h
  have nd := sc_law.nd
  have hm : isSg "m" = true := by decide +kernel
  have two : (2 : Nat) ≤ sizeLine := by decide
  obtain ⟨ds, vd, bd⟩ := bd_Rule_init_3 T
  cases vd
  refine ⟨_, (pss_cons (ps_set (i := 1) nd rfl (Or.inr rfl) (pe_fn (ok_law_pool T) (hr.mono (by decide)) (by rfl) T.m__law_pool T.F__law_pool.kp T.b__law_pool .nil (fun _ => atN _) (pa_cons (pv 0) pa_nil)))
    (pss_cons (ps_set (i := 2) nd rfl (Or.inl rfl) (pe_fn (ok_law_alphabet T) (hr.mono (by decide)) (by rfl) T.m__law_alphabet T.F__law_alphabet.kp T.b__law_alphabet .nil (fun _ => atN _) (pa_cons (pv 1) (pa_cons (pe_op op_add pe_int (pe_fn (ok_law_pick T) (hr.mono (by decide)) (by rfl) T.m__law_pick T.F__law_pick.kp T.b__law_pick .nil (fun _ => atN _) (pa_cons (pv 1) (pa_cons pe_int pa_nil)))) pa_nil))))
    (pss_cons (ps_set (i := 3) nd rfl (Or.inl rfl) (pe_tup (pa_cons (pe_fn (ok_law_word_of T) (hr.mono (by decide)) (by rfl) T.m__law_word_of T.F__law_word_of.kp T.b__law_word_of .nil (fun _ => atN _) (pa_cons (pv 1) (pa_cons (pv 2) (pa_cons pe_int (pa_cons pe_int pa_nil))))) (pa_cons (pe_fn (ok_law_word_of T) (hr.mono (by decide)) (by rfl) T.m__law_word_of T.F__law_word_of.kp T.b__law_word_of .nil (fun _ => atN _) (pa_cons (pv 1) (pa_cons (pv 2) (pa_cons pe_int (pa_cons pe_int pa_nil))))) pa_nil))))
    (C8.pss_cut (ps_set (i := 4) nd rfl (Or.inr rfl) (pe_ifExp (pt_cmpR op_eq (pe_fn (ok_law_pick T) (hr.mono (by decide)) (by rfl) T.m__law_pick T.F__law_pick.kp T.b__law_pick .nil (fun _ => atN _) (pa_cons (pv 1) (pa_cons pe_int pa_nil))) pe_int (nomark _)) pe_int pe_int))
    (pss_cons (ps_set (i := 5) nd rfl (Or.inl rfl) (pe_fn (ok_law_word_of T) (hr.mono (by decide)) (by rfl) T.m__law_word_of T.F__law_word_of.kp T.b__law_word_of .nil (fun _ => atN _) (pa_cons (pv 1) (pa_cons (pv 2) (pa_cons pe_int (pa_cons pe_int pa_nil))))))
    (pss_cons (ps_set (i := 6) nd rfl (Or.inl rfl) (pe_op op_add_str (pe_op op_add_str (pv 5) (pe_ix ix_tup (pv 3) pe_int (fun _ _ => rfl))) (pe_fn (ok_law_word_of T) (hr.mono (by decide)) (by rfl) T.m__law_word_of T.F__law_word_of.kp T.b__law_word_of .nil (fun _ => atN _) (pa_cons (pv 1) (pa_cons (pv 2) (pa_cons pe_int (pa_cons pe_int pa_nil)))))))
    (pss_cons (ps_setLc (i := 8) (own := [("_law_sign", 7)]) (g := (gName 7)) (tt := tYes) rfl nd rfl rfl (sw_true rfl rfl rfl (by decide +kernel)) (pi_str (pv 6)) (blkOk_by (N := N_law) (sc := defScope s_law) (by decide +kernel)) (fun _ _ _ _ _ => (pg_name (i := 7) nd rfl (Or.inl rfl))) (fun _ _ _ _ _ => pts_nil) (fun _ _ _ _ _ => (pe_tup (pa_cons (pv 7) (pa_cons (pe_op op_add (pv 4) (pe_fn (ok_law_pick T) (hr.mono (by decide)) (by rfl) T.m__law_pick T.F__law_pick.kp T.b__law_pick .nil (fun _ => atN _) (pa_cons (pv 1) (pa_cons (pe_op op_sub pe_int (pv 4)) pa_nil)))) pa_nil)))))
    (pss_cons (ps_set (i := 9) nd rfl (Or.inl rfl) (pe_callB call_len_str (by rfl) T.n_len PySem.boot_len (pa_cons (pv 5) pa_nil)))
    (C8.pss_cut (ps_if (pt_cmpR op_eq (pe_fn (ok_law_pick T) (hr.mono (by decide)) (by rfl) T.m__law_pick T.F__law_pick.kp T.b__law_pick .nil (fun _ => atN _) (pa_cons (pv 1) (pa_cons pe_int pa_nil))) pe_int (nomark _)) (pss_one (ps_set (i := 9) nd rfl (Or.inl rfl) (pe_op op_sub (pe_fn (ok_law_pick T) (hr.mono (by decide)) (by rfl) T.m__law_pick T.F__law_pick.kp T.b__law_pick .nil (fun _ => atN _) (pa_cons (pv 1) (pa_cons (pe_op op_add (pe_callB call_len_str (by rfl) T.n_len PySem.boot_len (pa_cons (pv 6) pa_nil)) pe_int) pa_nil))) pe_int))) pss_nil)
    (pss_cons (ps_set (i := 10) nd rfl (Or.inl rfl) (pe_mkR ⟨T.mk_Rule, T.M_Rule_init.at_, T.M_Rule_init.fn, T.kp_Rule⟩ (ok_Rule_init T) (hr.mono (by decide)) (by rfl) T.m_Rule bd .nil (fun _ => atN _) (pa_cons (pe_ix ix_tup (pv 3) pe_int (fun _ _ => rfl)) (pa_cons (pe_ix ix_tup (pv 3) pe_int (fun _ _ => rfl)) pa_nil))))
    (pss_cons (ps_set (i := 11) nd rfl (Or.inl rfl) (pe_fn (ok_law_as_row T) (hr.mono (by decide)) (by rfl) T.m__law_as_row T.F__law_as_row.kp T.b__law_as_row .nil (fun _ => atN _) (pa_cons (pv 8) pa_nil)))
    (pss_cons (ps_set (i := 12) nd rfl (Or.inl rfl) (pe_fn (ok_law_done T) (hr.mono (by decide)) (by rfl) T.m__law_done T.F__law_done.kp T.b__law_done .nil (fun _ => atN _) (pa_cons (pv 10) (pa_cons (pv 11) (pa_cons (pv 9) pa_nil)))))
    (pss_cons (ps_if (pt_not (pt_val (pe_fn (ok_law_same T) (hr.mono (by decide)) (by rfl) T.m__law_same T.F__law_same.kp T.b__law_same .nil (fun _ => atN _) (pa_cons (pv 12) (pa_cons (pe_fn (ok_law_due_of T) (hr.mono (by decide)) (by rfl) T.m__law_due_of T.F__law_due_of.kp T.b__law_due_of .nil (fun _ => atN _) (pa_cons (pv 8) (pa_cons (pv 3) (pa_cons (pv 9) pa_nil)))) pa_nil))))) (pss_one (ps_ret pe_bl)) pss_nil)
    (pss_cons (ps_if (pt_not (pt_val (pe_fn (ok_law_same T) (hr.mono (by decide)) (by rfl) T.m__law_same T.F__law_same.kp T.b__law_same .nil (fun _ => atN _) (pa_cons (pe_fn (ok_law_done_first T) (hr.mono (by decide)) (by rfl) T.m__law_done_first T.F__law_done_first.kp T.b__law_done_first .nil (fun _ => atN _) (pa_cons (pv 10) (pa_cons (pv 11) pa_nil))) (pa_cons (pe_fn (ok_law_due_of T) (hr.mono (by decide)) (by rfl) T.m__law_due_of T.F__law_due_of.kp T.b__law_due_of .nil (fun _ => atN _) (pa_cons (pv 8) (pa_cons (pv 3) (pa_cons pe_int pa_nil)))) pa_nil))))) (pss_one (ps_ret pe_bl)) pss_nil)
    (C8.pss_cut (ps_if (PW.pt (pw_and (pt_cmpR op_eq (pe_ix ix_tup (pv 12) pe_int (fun _ _ => rfl)) pe_str (nomark _)) (pw_and1 (pt_cmpR op_gt (pe_callB (call_lenO T.M_Row_len (ok_Row_len T) (hr.mono (by decide)) T.b_Row_len) (by rfl) T.n_len PySem.boot_len (pa_cons (pe_ix ix_tup (pv 12) pe_int (fun _ _ => rfl)) pa_nil)) pe_int (nomark _))))) (pss_cons (ps_set (i := 13) nd rfl (Or.inl rfl) (pe_ix ix_tup (pv 12) pe_int (fun _ _ => rfl)))
      (pss_one (ps_asg (pe_tup (pa_cons pe_str (pa_cons pe_int pa_nil))) (pg_sub (pv 13) pe_int (set_own T.M_Row_setitem T.nsq_Row (ok_Row_setitem T) (hr.mono (by decide)) T.b_Row_setitem))))) pss_nil)
    (pss_cons (ps_if (PW.pt (pw_or (pt_cmpR op_ne (pe_fld (pv 10) rfl) (pe_ix ix_tup (pv 3) pe_int (fun _ _ => rfl)) (nomark _)) (pw_or (pt_cmpR op_ne (pe_fld (pv 10) rfl) (pe_ix ix_tup (pv 3) pe_int (fun _ _ => rfl)) (nomark _)) (pw_or1 (pt_cmpR op_ne (pe_callTy (call_strO T.M_Rule_str (ok_Rule_str T) (hr.mono (by decide)) T.b_Rule_str) (by rfl) T.n_str (by decide +kernel) (pa_cons (pv 10) pa_nil)) (pe_op op_add_str (pe_op op_add_str (pe_ix ix_tup (pv 3) pe_int (fun _ _ => rfl)) pe_str) (pe_ix ix_tup (pv 3) pe_int (fun _ _ => rfl))) (nomark _)))))) (pss_one (ps_ret pe_bl)) pss_nil)
    (pss_one (ps_ret (pe_and (pe_fn (ok_law_shows T) (hr.mono (by decide)) (by rfl) T.m__law_shows T.F__law_shows.kp T.b__law_shows .nil (fun _ => atN _) (pa_cons (pv 11) (pa_cons (pv 8) pa_nil))) (pe_one (pe_fn (ok_law_same T) (hr.mono (by decide)) (by rfl) T.m__law_same T.F__law_same.kp T.b__law_same .nil (fun _ => atN _) (pa_cons (pe_fn (ok_law_done_named T) (hr.mono (by decide)) (by rfl) T.m__law_done_named T.F__law_done_named.kp T.b__law_done_named .nil (fun _ => atN _) (pa_cons (pv 10) (pa_cons (pv 11) (pa_cons (pv 9) pa_nil)))) (pa_cons (pe_fn (ok_law_due_of T) (hr.mono (by decide)) (by rfl) T.m__law_due_of T.F__law_due_of.kp T.b__law_due_of .nil (fun _ => atN _) (pa_cons (pv 8) (pa_cons (pv 3) (pa_cons (pv 9) pa_nil)))) pa_nil))))))))))))))))))))))), ?_⟩
  refine ⟨_, rfl, a, ns, rfl, hS, hlen, fun H1 d S1 hd D1 => ?_⟩
  refine ⟨_, rfl, _, rfl, d, 3, rfl, by decide, D1, fun H2 x x0 x1 D2 B2 => ⟨_, _, rfl, rfl, d, 1 + x, rfl, by omega, by omega, D2, fun H3 z hz ho D3 B3 => ?_⟩⟩
  refine ⟨_, rfl, _, rfl, d, z, 1, 4, rfl, by decide, by decide, by decide, by omega, by omega, D3, fun H4 l l1 l4 hol D4 B4 => ⟨_, rfl, _, rfl, d, z, 0, 4, rfl, by decide, by decide, by decide, by omega, by omega, D4, fun H5 r r0 r4 hor D5 B5 => ⟨two, fun sd hsd => ?_⟩⟩⟩
  have Ssd := Rz.Same.new (o := .tup [.str l, .str r]) (Same.refl H5) hsd
  have D6 := D5.same Ssd
  refine ⟨fun σ H' => ∃ f : Int, σ = [some (.ref a), some (.ref d), some (.str z), some (.ref sd), some (.int f), none, none, none, none, none, none, none, none, none] ∧ 0 ≤ f ∧ f ≤ 9 ∧ Dr H' d ∧ H' sd = some (.tup [.str l, .str r]), ?_, ?_⟩
  · refine ⟨_, rfl, d, 5, rfl, by decide, D6, fun H7 y y0 y1 D7 B7 => ⟨rfl, _, rfl, ?_⟩⟩
    have e7 := drT D6 B7 _ _ (show upd H5 sd (.tup [.str l, .str r]) sd = some (.tup [.str l, .str r]) from upd_same)
    exact ite2 (fun _ => ⟨9, rfl, by decide, by decide, D7, e7⟩) (fun _ => ⟨0, rfl, by decide, by decide, D7, e7⟩)
  rintro σ H7 ⟨f, rfl, f0, f9, D7, e7⟩
  clear D1 D2 D3 D4 D5 D6 B2 B3 B4 B5 S1 Ssd hsd
  refine ⟨_, rfl, _, rfl, d, z, 0, 5, rfl, by decide, by decide, by decide, by omega, by omega, D7, fun H8 ah ah0 ah5 hoa D8 B8 => ?_⟩
  have e8 := drT D7 B8 _ _ e7
  refine ⟨_, rfl, _, rfl, sd, _, _, _, rfl, rfl, SqT.of e8, rfl, ah, l, rfl, rfl, by rw [sizeLine_eq]; omega, _, rfl, _, rfl, d, z, 0, 5, rfl, by decide, by decide, by decide, by omega, by omega, D8, fun H9 bh bh0 bh5 hob D9 B9 => ⟨ah ++ l, bh, rfl, rfl, by rw [Str.length_append, sizeLine_eq]; omega, ?_⟩⟩
  have e9 := drT D8 B9 _ _ e8
  have lt : (ah ++ l ++ bh).length ≤ 14 := by rw [Str.length_append, Str.length_append]; omega
  have hot : Over abc (ah ++ l ++ bh) := over_app (over_app (over_trans hoa ho) (over_trans hol ho)) (over_trans hob ho)
  generalize ah ++ l ++ bh = tt at lt hot
  refine ⟨_, rfl, tt, rfl, fun D hDn => lc_it walk_str (fun j H' => ∃ (ts : List Addr) (ps : List Pr), H' D = some (.lst (ts.map V.ref)) ∧ PAt H' ts ps ∧ ps.length = j ∧ GoodR ps ∧ Dr H' d ∧ H' sd = some (.tup [.str l, .str r])) ?_ (fun _ _ _ _ => True.intro) ?_ ?_⟩
  · exact ⟨[], [], upd_same, .nil, rfl, (fun p hp => by cases hp), D9.same (Rz.Same.new (Same.refl _) hDn), Rz.Same.new (Same.refl _) hDn _ _ e9⟩
  · rintro j x H' H2 hj ⟨ts, ps, eD, hP, hl, hg, D', es⟩ ⟨rfl, c, hc, rfl⟩
    have hc' : tt.cps.toList[j]? = some c := by
      rw [← hc]
      exact Array.getElem?_toList ..
    have hcm := hot c (List.mem_of_getElem? hc')
    have nDd : D ≠ d := Ne.symm (apartNew D9.some hDn)
    have hj2 : j < tt.length := hj
    refine ⟨rfl, yesT ⟨_, rfl, _, rfl, _, rfl, _, rfl, _, _, rfl, rfl, d, 10 - f, rfl, by omega, D', fun H3 y y0 y1 D3 B3 => ⟨_, _, rfl, rfl, two, fun t ht => ?_⟩⟩⟩
    have T3 := drT D' B3
    have eD3 := B3.at eD (nin1 nDd)
    have St := Rz.Same.new (o := .tup [.str ⟨#[c]⟩, .int (f + y)]) (Same.refl H3) ht
    have ntD : t ≠ D := fun z => by rw [z, eD3] at ht; cases ht
    have lts := hP.length
    refine ⟨_, St _ _ eD3, by rw [List.length_map, sizeLine_eq]; omega, ts ++ [t], ps ++ [(c, f + y)], by rw [upd_same, List.map_append]; rfl, ?_, by rw [List.length_append, hl]; rfl, ?_, (D3.same St).upd (Ne.symm nDd), ?_⟩
    · have T4 : Tups H2 (upd (upd H3 t (.tup [.str ⟨#[c]⟩, .int (f + y)])) D (.lst (ts.map V.ref ++ [.ref t]))) := Tups.upd (T3.trans (Tups.of St)) (not_tupL ⟨_, St _ _ eD3⟩)
      refine PAt.append (hP.keep T4) (.cons ?_ .nil)
      rw [upd_ne ntD, upd_same]
      rfl
    · exact good_cat hg fun p hp => by
        have e : p = (c, f + y) := by simpa using hp
        subst e
        exact ⟨evC hcm, by show 0 ≤ f + y; omega, by show f + y ≤ 9; omega⟩
    · have nsD : sd ≠ D := fun z => by rw [z, eD] at es; cases es
      rw [upd_ne nsD]
      exact St _ _ (T3 _ _ es)
  rintro H10 ⟨ts, ps, eD, hP, hl, hg, D10, e10⟩
  have hl2 : ps.length = tt.length := hl
  have Lp : LAt H10 D ps := ⟨ts, eD, hP⟩
  have nDd : D ≠ d := Ne.symm (apartNew D9.some hDn)
  have zps : ps.length ≤ 14 := by omega
  clear hP eD hl ts D7 D8 D9 B8 B9 e7 e8 e9
  refine ⟨_, rfl, ah, rfl, by rw [sizeLine_eq]; omega, ?_⟩
  refine ⟨fun σ H' => ∃ i : Int, σ = [some (.ref a), some (.ref d), some (.str z), some (.ref sd), some (.int f), some (.str ah), some (.str tt), none, some (.ref D), some (.int i), none, none, none, none] ∧ i.natAbs ≤ 100 ∧ H' sd = some (.tup [.str l, .str r]) ∧ LAt H' D ps, ?_, ?_⟩
  · refine ⟨_, rfl, d, 3, rfl, by decide, D10, fun H11 y y0 y1 D11 B11 => ⟨rfl, _, rfl, ?_⟩⟩
    have e11 := drT D10 B11 _ _ e10
    have L11 := Lp.but B11 (nin1 nDd) (drT D10 B11)
    refine ite2 (fun _ => ?_) (fun _ => ⟨(ah.length : Nat), rfl, by omega, e11, L11⟩)
    refine ⟨_, rfl, _, rfl, tt, rfl, by rw [sizeLine_eq]; omega, _, _, rfl, rfl, d, (tt.length : Int) + 5, rfl, by omega, D11, fun H12 u u0 u1 D12 B12 => ⟨_, _, rfl, rfl, u - 2, rfl, by omega, drT D11 B12 _ _ e11, L11.but B12 (nin1 nDd) (drT D11 B12)⟩⟩
  rintro σ H12 ⟨i, rfl, zi, e12, L12⟩
  clear Lp D10 e10
  have fl := over_fo (over_trans hol ho)
  have fr := over_fo (over_trans hor ho)
  have hgd : rd l r = .good := good_rd fl fr (by omega) (by omega) (by omega)
  refine ⟨_, rfl, sd, _, _, _, rfl, rfl, SqT.of e12, rfl, _, rfl, sd, _, _, _, rfl, rfl, SqT.of e12, rfl, rule_new rfl (by omega) (by omega) hgd fun H13 q S13 fq Q13 => ?_⟩
  have L13 := L12.same S13
  have e13 := S13 _ _ e12
  refine ⟨_, rfl, D, ps, rfl, L13, hg, by omega, fun H14 p m S14 fp fm R14 => ?_⟩
  have Q14 := Q13.same S14
  have e14 := S14 _ _ e13
  have L14 := L13.same S14
  have nDm : D ≠ m := apartNew L13.some fm
  have zi2 : i.natAbs < 2 ^ 60 := by omega
  clear L12 L13 e12 e13 Q13 S13 S14
  refine ⟨_, rfl, _, rfl, _, rfl, q, p, m, l, r, ps, i, rfl, Q14, hgd, R14, hg, by omega, zi2, fun H15 t S15 tol => ?_⟩
  refine ⟨_, rfl, _, rfl, _, rfl, _, rfl, D, sd, ps, l, r, i, rfl, L14.same S15, S15 _ _ e14, hg, by omega, by omega, by omega, by omega, fun H16 u S16 due => ?_⟩
  have tol16 : TolR T.c_Row H14 H16 t ps l r i := tolr_same tol S16
  refine ⟨t, u, H14, ps, l, r, i, rfl, hg, by omega, hgd, tol16, due, fun H17 S17 => ⟨true, rfl, iteF ?_⟩⟩
  have S1417 := S15.trans (S16.trans S17)
  refine ⟨_, rfl, _, rfl, q, p, m, l, r, ps, rfl, Q14.same S1417, hgd, R14.same S1417, hg, by omega, fun H18 t2 S18 tol2 => ?_⟩
  have S1418 := S1417.trans S18
  refine ⟨_, rfl, _, rfl, D, sd, ps, l, r, 0, rfl, L14.same S1418, S1418 _ _ e14, hg, by omega, by omega, by omega, by omega, fun H19 u2 S19 due2 => ?_⟩
  refine ⟨t2, u2, H17, ps, l, r, 0, rfl, hg, by omega, hgd, tolr_same tol2 S19, due2, fun H20 S20 => ⟨true, rfl, iteF ?_⟩⟩
  have S1620 := S17.trans (S18.trans (S19.trans S20))
  have S1420 := S1418.trans (S19.trans S20)
  have tol20 := tolr_same tol16 S1620
  have Q20 := Q14.same S1420
  have R20 := R14.same S1420
  have L20 := L14.same S1420
  have e20 := S1420 _ _ e14
  have nR : ∀ {s ms : Addr}, H14 s = none → H14 ms = none → m ≠ ms ∧ p ≠ ms ∧ D ≠ ms ∧ q ≠ ms := fun {s ms} h1 h2 => ⟨apartNew R14.lst.some h2, apartNew R14.some h2, apartNew L14.some h2, apartNew (by obtain ⟨_, e⟩ := Q14; exact ⟨_, e⟩) h2⟩
  clear S1417 S1418 S15 S16 S17 S18 S19 S20 S1620 tol tol16 tol2 due due2 S1420
  refine ⟨fun σ H' => ∃ v13 : Option V, σ = [some (.ref a), some (.ref d), some (.str z), some (.ref sd), some (.int f), some (.str ah), some (.str tt), none, some (.ref D), some (.int i), some (.ref q), some (.ref p), some (.ref t), v13] ∧ RuAt T.c_Rule H' q l r ∧ RAt T.c_Row H' p m ps ∧ LAt H' D ps ∧ H' sd = some (.tup [.str l, .str r]), ?_, ?_⟩
  · obtain ⟨t0, t1⟩ := tol20
    cases hf : fitAt (ps.map (·.1)) l.cps.toList i with
    | false =>
      have e1 := t0 hf
      refine ⟨_, rfl, t, _, _, _, rfl, rfl, SqT.of e1, rfl, rfl, _, rfl, ?_⟩
      rw [decide_eq_false (show ¬ V.str "mismatch" = V.str "row" by decide +kernel)]
      exact iteF (iteF ⟨none, rfl, Q20, R20, L20, e20⟩)
    | true =>
      obtain ⟨t2, t3⟩ := t1 hf
      by_cases far : tooFar ps l r i 9
      · have e1 := t2 far
        refine ⟨_, rfl, t, _, _, _, rfl, rfl, SqT.of e1, rfl, rfl, _, rfl, ?_⟩
        rw [decide_eq_false (show ¬ V.str "beyond" = V.str "row" by decide +kernel)]
        exact iteF (iteF ⟨none, rfl, Q20, R20, L20, e20⟩)
      · obtain ⟨s, ms, fs, fms, e1, Rs⟩ := t3 far
        have zl := step_len (ps := ps) (l := l) (r := r) (i := i.toNat)
        generalize stepTo ps l.cps.toList r.cps.toList i.toNat = qs at Rs zl
        obtain ⟨nm, np, nD, nq⟩ := nR fs fms
        refine ⟨_, rfl, t, _, _, _, rfl, rfl, SqT.of e1, rfl, rfl, _, rfl, ?_⟩
        rw [decide_eq_true rfl]
        obtain ⟨dxs, ips, _⟩ := id Rs
        refine iteT ⟨_, rfl, t, _, _, _, rfl, rfl, SqT.of e1, rfl, s, dxs, _, rfl, ips, s, ms, qs, rfl, Rs, qs.length, rfl, by omega, _, _, rfl, rfl, _, rfl, ?_⟩
        refine ite2 (fun hpos => ?_) (fun _ => ⟨none, rfl, Q20, R20, L20, e20⟩)
        have pos : (0 : Int) < (qs.length : Int) := of_decide_eq_true hpos
        refine ⟨_, rfl, t, _, _, _, rfl, rfl, SqT.of e1, rfl, two, fun v hv => ?_⟩
        have Sv := Rz.Same.new (o := .tup [.str "m", .int 3]) (Same.refl H20) hv
        refine ⟨_, rfl, s, dxs, _, rfl, Sv _ _ ips, s, ms, v, qs, 0, 3, "m", rfl, Rs.same Sv, upd_same, by omega, by decide, by decide, by decide, fun bad => absurd ⟨Int.le_refl 0, pos⟩ bad, fun _ => ⟨fun bad => absurd (hm.symm.trans bad) (by decide), fun _ => ⟨fun bad => absurd ⟨by decide, by decide⟩ bad, fun _ H22 c' ec oc B22 R22 => ?_⟩⟩⟩
        have T22 := tups1 B22 (not_tupL (Rs.same Sv).lst.isL)
        exact ⟨_, rfl, (Q20.same Sv).but B22 (nin1 nq), (R20.same Sv).but B22 (nin1 np) (nin1 nm) T22, (L20.same Sv).but B22 (nin1 nD) T22, T22 _ _ (Sv _ _ e20)⟩
  rintro σ H22 ⟨v13, rfl, Q22, R22, L22, e22⟩
  obtain ⟨dq, hq⟩ := id Q22
  have hlr : r.length ≤ 4 := by omega
  have hll : l.length ≤ 4 := by omega
  refine ⟨_, rfl, q, _, dq, _, _, rfl, hq, T.cl_Rule, T.na_Rule_left, ruleF_left l r, _, rfl, sd, _, _, _, rfl, rfl, SqT.of e22, rfl, rfl, _, rfl, ?_⟩
  rw [decide_eq_true rfl]
  refine iteF ⟨_, rfl, q, _, dq, _, _, rfl, hq, T.cl_Rule, T.na_Rule_right, ruleF_right l r, _, rfl, sd, _, _, _, rfl, rfl, SqT.of e22, rfl, rfl, _, rfl, ?_⟩
  rw [decide_eq_true rfl]
  refine iteF ⟨_, rfl, q, dq, _, rfl, hq, q, dq, l, r, rfl, by omega, by omega, hq, ⟨_, rfl⟩, ?_⟩
  refine ⟨_, rfl, sd, _, _, _, rfl, rfl, SqT.of e22, rfl, l, ":", rfl, rfl, by rw [sizeLine_eq]; show l.length + 1 ≤ _; omega, _, rfl, sd, _, _, _, rfl, rfl, SqT.of e22, rfl, l ++ ":", r, rfl, rfl, by rw [Str.length_append, sizeLine_eq]; show l.length + 1 + _ ≤ _; omega, rfl, _, rfl, ?_⟩
  have ert : ruleT l r = l ++ ":" ++ r := by
    unfold ruleT
    have : Str.empty ++ l = l := by
      obtain ⟨c⟩ := l
      show (⟨#[] ++ c⟩ : Str) = ⟨c⟩
      rw [Array.empty_append]
    rw [this]
  rw [ert, decide_eq_true rfl]
  refine iteF ?_
  refine ⟨_, rfl, _, rfl, p, m, D, ps, rfl, R22, L22, hg, by omega, fun H23 S23 => ⟨true, rfl, iteT ?_⟩⟩
  refine ⟨_, rfl, _, rfl, _, rfl, q, p, m, l, r, ps, i, rfl, Q22.same S23, hgd, R22.same S23, hg, by omega, zi2, fun H24 t4 S24 tol4 => ?_⟩
  have S2224 := S23.trans S24
  refine ⟨_, rfl, _, rfl, _, rfl, D, sd, ps, l, r, i, rfl, L22.same S2224, S2224 _ _ e22, hg, by omega, by omega, by omega, by omega, fun H25 u4 S25 due4 => ?_⟩
  exact ⟨t4, u4, H23, ps, l, r, i, rfl, hg, by omega, hgd, tolr_same tol4 S25, due4, fun H26 S26 => k _⟩
end
end Rz

namespace Rz
open PySem L2
theorem all_mk {w : World} {K : PySem.W.Frag} {h : Heap} {mg : Str → Option Value} {fa : Addr} (X : K.In h) (G : h.Ns mainGlobals mg) (hfa : mg "law" = some (.ref fa))
    {tk_SIGNS : Tok}
    {tk_GREATEST_HEIGHT : Tok}
    {tk_MOST_SIGNS : Tok}
    {c_BadSign : Addr}
    {nm_BadSign q_BadSign : Str} {N_BadSign : Addr} {bs_BadSign bm_BadSign : List Value} {sn_BadSign : List Str} {sub_BadSign : List Value} {ab_BadSign : Bool} {col_BadSign : Option Bool} {dd_BadSign : Option Addr} {k0_BadSign k1_BadSign k2_BadSign k3_BadSign k5_BadSign : Option Value}
    {f_BadSign_init cc_BadSign_init cda_BadSign_init : Addr} {oc_BadSign_init kV_BadSign_init dc_BadSign_init pm_BadSign_init ct_BadSign_init ccl_BadSign_init cl_BadSign_init : Value} {od_BadSign_init an_BadSign_init cdd_BadSign_init cld_BadSign_init : Option Addr} {sl_BadSign_init cs_BadSign_init ls_BadSign_init : Array (Option Value)} {vs_BadSign_init : Array Value} {fl_BadSign_init : Str} {tf_BadSign_init : Tok}
    {c_NoPlace : Addr}
    {nm_NoPlace q_NoPlace : Str} {N_NoPlace : Addr} {bs_NoPlace bm_NoPlace : List Value} {sn_NoPlace : List Str} {sub_NoPlace : List Value} {ab_NoPlace : Bool} {col_NoPlace : Option Bool} {dd_NoPlace : Option Addr} {k0_NoPlace k1_NoPlace k2_NoPlace k3_NoPlace k5_NoPlace : Option Value}
    {f_NoPlace_init cc_NoPlace_init cda_NoPlace_init : Addr} {oc_NoPlace_init kV_NoPlace_init dc_NoPlace_init pm_NoPlace_init ct_NoPlace_init ccl_NoPlace_init cl_NoPlace_init : Value} {od_NoPlace_init an_NoPlace_init cdd_NoPlace_init cld_NoPlace_init : Option Addr} {sl_NoPlace_init cs_NoPlace_init ls_NoPlace_init : Array (Option Value)} {vs_NoPlace_init : Array Value} {fl_NoPlace_init : Str} {tf_NoPlace_init : Tok}
    {c_Mismatch : Addr}
    {nm_Mismatch q_Mismatch : Str} {N_Mismatch : Addr} {bs_Mismatch bm_Mismatch : List Value} {sn_Mismatch : List Str} {sub_Mismatch : List Value} {ab_Mismatch : Bool} {col_Mismatch : Option Bool} {dd_Mismatch : Option Addr} {k0_Mismatch k1_Mismatch k2_Mismatch k3_Mismatch k5_Mismatch : Option Value}
    {f_Mismatch_init cc_Mismatch_init cda_Mismatch_init : Addr} {oc_Mismatch_init kV_Mismatch_init dc_Mismatch_init pm_Mismatch_init ct_Mismatch_init ccl_Mismatch_init cl_Mismatch_init : Value} {od_Mismatch_init an_Mismatch_init cdd_Mismatch_init cld_Mismatch_init : Option Addr} {sl_Mismatch_init cs_Mismatch_init ls_Mismatch_init : Array (Option Value)} {vs_Mismatch_init : Array Value} {fl_Mismatch_init : Str} {tf_Mismatch_init : Tok}
    {c_BadHeight : Addr}
    {nm_BadHeight q_BadHeight : Str} {N_BadHeight : Addr} {bs_BadHeight bm_BadHeight : List Value} {sn_BadHeight : List Str} {sub_BadHeight : List Value} {ab_BadHeight : Bool} {col_BadHeight : Option Bool} {dd_BadHeight : Option Addr} {k0_BadHeight k1_BadHeight k2_BadHeight k3_BadHeight k5_BadHeight : Option Value}
    {f_BadHeight_init cc_BadHeight_init cda_BadHeight_init : Addr} {oc_BadHeight_init kV_BadHeight_init dc_BadHeight_init pm_BadHeight_init ct_BadHeight_init ccl_BadHeight_init cl_BadHeight_init : Value} {od_BadHeight_init an_BadHeight_init cdd_BadHeight_init cld_BadHeight_init : Option Addr} {sl_BadHeight_init cs_BadHeight_init ls_BadHeight_init : Array (Option Value)} {vs_BadHeight_init : Array Value} {fl_BadHeight_init : Str} {tf_BadHeight_init : Tok}
    {c_Beyond : Addr}
    {nm_Beyond q_Beyond : Str} {N_Beyond : Addr} {bs_Beyond bm_Beyond : List Value} {sn_Beyond : List Str} {sub_Beyond : List Value} {ab_Beyond : Bool} {col_Beyond : Option Bool} {dd_Beyond : Option Addr} {k0_Beyond k1_Beyond k2_Beyond k3_Beyond k5_Beyond : Option Value}
    {f_Beyond_init cc_Beyond_init cda_Beyond_init : Addr} {oc_Beyond_init kV_Beyond_init dc_Beyond_init pm_Beyond_init ct_Beyond_init ccl_Beyond_init cl_Beyond_init : Value} {od_Beyond_init an_Beyond_init cdd_Beyond_init cld_Beyond_init : Option Addr} {sl_Beyond_init cs_Beyond_init ls_Beyond_init : Array (Option Value)} {vs_Beyond_init : Array Value} {fl_Beyond_init : Str} {tf_Beyond_init : Tok}
    {c_Uneven : Addr}
    {c_BadRule : Addr}
    {c_Row : Addr}
    {c_Rule : Addr}
    {f_check_text : Addr} {oc_check_text kV_check_text dc_check_text pm_check_text cd_check_text ct_check_text : Value} {od_check_text an_check_text : Option Addr} {sl_check_text : Array (Option Value)}
    {f_decoded : Addr} {oc_decoded kV_decoded dc_decoded pm_decoded cd_decoded ct_decoded : Value} {od_decoded an_decoded : Option Addr} {sl_decoded : Array (Option Value)}
    {f_is_sign : Addr} {oc_is_sign kV_is_sign dc_is_sign pm_is_sign cd_is_sign ct_is_sign : Value} {od_is_sign an_is_sign : Option Addr} {sl_is_sign : Array (Option Value)}
    {f_check_height : Addr} {oc_check_height kV_check_height dc_check_height pm_check_height cd_check_height ct_check_height : Value} {od_check_height an_check_height : Option Addr} {sl_check_height : Array (Option Value)}
    {f_Row_init : Addr} {oc_Row_init kV_Row_init dc_Row_init pm_Row_init cd_Row_init ct_Row_init : Value} {od_Row_init an_Row_init : Option Addr} {sl_Row_init : Array (Option Value)}
    {dT_Row_init : Addr}
    {tk0_Row_init : Tok}
    {uc_Row_init : Value} {ud_Row_init : Option Addr} {un_Row_init : Nat} {us_Row_init : Array (Option Value)}
    {f_Row_signs : Addr} {oc_Row_signs kV_Row_signs dc_Row_signs pm_Row_signs cd_Row_signs ct_Row_signs : Value} {od_Row_signs an_Row_signs : Option Addr} {sl_Row_signs : Array (Option Value)}
    {p_Row_signs : Addr} {rs_Row_signs : List Value}
    {f_Row_heights : Addr} {oc_Row_heights kV_Row_heights dc_Row_heights pm_Row_heights cd_Row_heights ct_Row_heights : Value} {od_Row_heights an_Row_heights : Option Addr} {sl_Row_heights : Array (Option Value)}
    {p_Row_heights : Addr} {rs_Row_heights : List Value}
    {f_Row_len : Addr} {oc_Row_len kV_Row_len dc_Row_len pm_Row_len cd_Row_len ct_Row_len : Value} {od_Row_len an_Row_len : Option Addr} {sl_Row_len : Array (Option Value)}
    {f_Row_iter : Addr} {oc_Row_iter kV_Row_iter dc_Row_iter pm_Row_iter cd_Row_iter ct_Row_iter : Value} {od_Row_iter an_Row_iter : Option Addr} {sl_Row_iter : Array (Option Value)}
    {f_Row_abs : Addr} {oc_Row_abs kV_Row_abs dc_Row_abs pm_Row_abs cd_Row_abs ct_Row_abs : Value} {od_Row_abs an_Row_abs : Option Addr} {sl_Row_abs : Array (Option Value)}
    {f_Row_check_place : Addr} {oc_Row_check_place kV_Row_check_place dc_Row_check_place pm_Row_check_place cd_Row_check_place ct_Row_check_place : Value} {od_Row_check_place an_Row_check_place : Option Addr} {sl_Row_check_place : Array (Option Value)}
    {f__row_of : Addr} {oc__row_of kV__row_of dc__row_of pm__row_of cd__row_of ct__row_of : Value} {od__row_of an__row_of : Option Addr} {sl__row_of : Array (Option Value)}
    {f_Row_getitem : Addr} {oc_Row_getitem kV_Row_getitem dc_Row_getitem pm_Row_getitem cd_Row_getitem ct_Row_getitem : Value} {od_Row_getitem an_Row_getitem : Option Addr} {sl_Row_getitem : Array (Option Value)}
    {f_Row_setitem : Addr} {oc_Row_setitem kV_Row_setitem dc_Row_setitem pm_Row_setitem cd_Row_setitem ct_Row_setitem : Value} {od_Row_setitem an_Row_setitem : Option Addr} {sl_Row_setitem : Array (Option Value)}
    {f_Rule_init : Addr} {oc_Rule_init kV_Rule_init dc_Rule_init pm_Rule_init cd_Rule_init ct_Rule_init : Value} {od_Rule_init an_Rule_init : Option Addr} {sl_Rule_init : Array (Option Value)}
    {dT_Rule_init : Addr}
    {tk0_Rule_init : Tok}
    {uc_Rule_init : Value} {ud_Rule_init : Option Addr} {un_Rule_init : Nat} {us_Rule_init : Array (Option Value)}
    {f_Rule_str : Addr} {oc_Rule_str kV_Rule_str dc_Rule_str pm_Rule_str cd_Rule_str ct_Rule_str : Value} {od_Rule_str an_Rule_str : Option Addr} {sl_Rule_str : Array (Option Value)}
    {f__fits : Addr} {oc__fits kV__fits dc__fits pm__fits cd__fits ct__fits : Value} {od__fits an__fits : Option Addr} {sl__fits : Array (Option Value)}
    {f__stepped : Addr} {oc__stepped kV__stepped dc__stepped pm__stepped cd__stepped ct__stepped : Value} {od__stepped an__stepped : Option Addr} {sl__stepped : Array (Option Value)}
    {f_Rule_call : Addr} {oc_Rule_call kV_Rule_call dc_Rule_call pm_Rule_call cd_Rule_call ct_Rule_call : Value} {od_Rule_call an_Rule_call : Option Addr} {sl_Rule_call : Array (Option Value)}
    {dT_Rule_call : Addr}
    {tk0_Rule_call : Tok}
    {uc_Rule_call : Value} {ud_Rule_call : Option Addr} {un_Rule_call : Nat} {us_Rule_call : Array (Option Value)}
    {f__law_pool : Addr} {oc__law_pool kV__law_pool dc__law_pool pm__law_pool cd__law_pool ct__law_pool : Value} {od__law_pool an__law_pool : Option Addr} {sl__law_pool : Array (Option Value)}
    {f__law_pick : Addr} {oc__law_pick kV__law_pick dc__law_pick pm__law_pick cd__law_pick ct__law_pick : Value} {od__law_pick an__law_pick : Option Addr} {sl__law_pick : Array (Option Value)}
    {f__law_alphabet : Addr} {oc__law_alphabet kV__law_alphabet dc__law_alphabet pm__law_alphabet cd__law_alphabet ct__law_alphabet : Value} {od__law_alphabet an__law_alphabet : Option Addr} {sl__law_alphabet : Array (Option Value)}
    {f__law_word_of : Addr} {oc__law_word_of kV__law_word_of dc__law_word_of pm__law_word_of cd__law_word_of ct__law_word_of : Value} {od__law_word_of an__law_word_of : Option Addr} {sl__law_word_of : Array (Option Value)}
    {f__law_is_int : Addr} {oc__law_is_int kV__law_is_int dc__law_is_int pm__law_is_int cd__law_is_int ct__law_is_int : Value} {od__law_is_int an__law_is_int : Option Addr} {sl__law_is_int : Array (Option Value)}
    {f__law_take : Addr} {oc__law_take kV__law_take dc__law_take pm__law_take cd__law_take ct__law_take : Value} {od__law_take an__law_take : Option Addr} {sl__law_take : Array (Option Value)}
    {f__law_shows : Addr} {oc__law_shows kV__law_shows dc__law_shows pm__law_shows cd__law_shows ct__law_shows : Value} {od__law_shows an__law_shows : Option Addr} {sl__law_shows : Array (Option Value)}
    {f__law_as_row : Addr} {oc__law_as_row kV__law_as_row dc__law_as_row pm__law_as_row cd__law_as_row ct__law_as_row : Value} {od__law_as_row an__law_as_row : Option Addr} {sl__law_as_row : Array (Option Value)}
    {f__law_due_of : Addr} {oc__law_due_of kV__law_due_of dc__law_due_of pm__law_due_of cd__law_due_of ct__law_due_of : Value} {od__law_due_of an__law_due_of : Option Addr} {sl__law_due_of : Array (Option Value)}
    {f__law_done : Addr} {oc__law_done kV__law_done dc__law_done pm__law_done cd__law_done ct__law_done : Value} {od__law_done an__law_done : Option Addr} {sl__law_done : Array (Option Value)}
    {f__law_done_named : Addr} {oc__law_done_named kV__law_done_named dc__law_done_named pm__law_done_named cd__law_done_named ct__law_done_named : Value} {od__law_done_named an__law_done_named : Option Addr} {sl__law_done_named : Array (Option Value)}
    {f__law_done_first : Addr} {oc__law_done_first kV__law_done_first dc__law_done_first pm__law_done_first cd__law_done_first ct__law_done_first : Value} {od__law_done_first an__law_done_first : Option Addr} {sl__law_done_first : Array (Option Value)}
    {f__law_same : Addr} {oc__law_same kV__law_same dc__law_same pm__law_same cd__law_same ct__law_same : Value} {od__law_same an__law_same : Option Addr} {sl__law_same : Array (Option Value)}
    {f_law : Addr} {oc_law kV_law dc_law pm_law cd_law ct_law : Value} {od_law an_law : Option Addr} {sl_law : Array (Option Value)}
    (z_abs : PySem.W.nsIn K mainGlobals "abs" = some none)
    (z_bool : PySem.W.nsIn K mainGlobals "bool" = some none)
    (z_bytes : PySem.W.nsIn K mainGlobals "bytes" = some none)
    (z_enumerate : PySem.W.nsIn K mainGlobals "enumerate" = some none)
    (z_int : PySem.W.nsIn K mainGlobals "int" = some none)
    (z_isinstance : PySem.W.nsIn K mainGlobals "isinstance" = some none)
    (z_iter : PySem.W.nsIn K mainGlobals "iter" = some none)
    (z_len : PySem.W.nsIn K mainGlobals "len" = some none)
    (z_list : PySem.W.nsIn K mainGlobals "list" = some none)
    (z_max : PySem.W.nsIn K mainGlobals "max" = some none)
    (z_min : PySem.W.nsIn K mainGlobals "min" = some none)
    (z_property : PySem.W.nsIn K mainGlobals "property" = some none)
    (z_range : PySem.W.nsIn K mainGlobals "range" = some none)
    (z_str : PySem.W.nsIn K mainGlobals "str" = some none)
    (z_tuple : PySem.W.nsIn K mainGlobals "tuple" = some none)
    (z_zip : PySem.W.nsIn K mainGlobals "zip" = some none)
    (a_SIGNS : PySem.W.nsIn K mainGlobals "SIGNS" = some (some (.str "abcdefghijklmnopqrstuvwxyz" tk_SIGNS)))
    (a_GREATEST_HEIGHT : PySem.W.nsIn K mainGlobals "GREATEST_HEIGHT" = some (some (.int 9 tk_GREATEST_HEIGHT)))
    (a_MOST_SIGNS : PySem.W.nsIn K mainGlobals "MOST_SIGNS" = some (some (.int 4 tk_MOST_SIGNS)))
    (a_BadSign : PySem.W.nsIn K mainGlobals "BadSign" = some (some (.ref c_BadSign)))
    (l_BadSign : K.lookup c_BadSign = some (excClassObj nm_BadSign q_BadSign c_BadSign N_BadSign bs_BadSign bm_BadSign true sn_BadSign sub_BadSign ab_BadSign col_BadSign dd_BadSign k0_BadSign k1_BadSign k2_BadSign k3_BadSign k5_BadSign "ValueError.__new__"))
    (ve_BadSign : PySem.HandSPX.refsVE bm_BadSign = true)
    (sa_BadSign : PySem.W.findIn K (.ref c_BadSign) "__setattr__" = some (some (.builtin "object.__setattr__")))
    (eb_BadSign : PySem.W.subIn K (.ref c_BadSign) (.type "BaseException") = some true)
    (ev_BadSign : PySem.W.subIn K (.ref c_BadSign) (.type "ValueError") = some true)
    (ty_BadSign : PySem.W.typeIn K (.ref c_BadSign) = some (.type "type"))
    (kc_BadSign : PySem.W.keepIn K (.ref c_BadSign) = true)
    (ga_BadSign : PySem.W.findIn K (.ref c_BadSign) "__getattribute__" = some (some (.builtin "BaseException.__getattribute__")))
    (gg_BadSign : PySem.W.findIn K (.ref c_BadSign) "__getattr__" = some none)
    (nf_BadSign : PySem.W.findIn K (.ref c_BadSign) "at" = some none)
    (hd_BadSign : PySem.W.hasDictIn K c_BadSign = true)
    (mc_BadSign : PySem.W.mroIn K c_BadSign (.ref c_BadSign) = some true)
    (si_BadSign : PySem.W.ks_superIn K c_BadSign c_BadSign "__init__" = some (some (.builtin "ValueError.__init__")))
    (i_BadSign_init : PySem.W.findIn K (.ref c_BadSign) "__init__" = some (some (.ref f_BadSign_init)))
    (t_BadSign_init : PySem.W.typeIn K (.ref f_BadSign_init) = some (.type "function"))
    (l_BadSign_init : K.lookup f_BadSign_init = some ⟨oc_BadSign_init, od_BadSign_init, .func (PySem.W.ksFn "__init__" "BadSign.__init__" (defArgs s_BadSign_init) (defBody s_BadSign_init) (defScope s_BadSign_init) .none kV_BadSign_init dc_BadSign_init pm_BadSign_init an_BadSign_init (.ref cda_BadSign_init) ct_BadSign_init cc_BadSign_init), sl_BadSign_init⟩)
    (d_BadSign_init : PySem.W.codeIn K (.ref cda_BadSign_init) "BadSign.__init__" = true)
    (e_BadSign_init : K.lookup cda_BadSign_init = some ⟨ccl_BadSign_init, cdd_BadSign_init, .fields vs_BadSign_init, cs_BadSign_init⟩)
    (v_BadSign_init : vs_BadSign_init[2]? = some (.str fl_BadSign_init tf_BadSign_init))
    (g_BadSign_init : ((prg.main.file : Str) == fl_BadSign_init) = true)
    (h_BadSign_init : K.lookup cc_BadSign_init = some ⟨cl_BadSign_init, cld_BadSign_init, .cell (some (.ref c_BadSign)), ls_BadSign_init⟩)
    (em_BadSign_BadSign : PySem.W.exmOne K (.ref c_BadSign) (.ref c_BadSign) = some true)
    (a_NoPlace : PySem.W.nsIn K mainGlobals "NoPlace" = some (some (.ref c_NoPlace)))
    (l_NoPlace : K.lookup c_NoPlace = some (excClassObj nm_NoPlace q_NoPlace c_NoPlace N_NoPlace bs_NoPlace bm_NoPlace true sn_NoPlace sub_NoPlace ab_NoPlace col_NoPlace dd_NoPlace k0_NoPlace k1_NoPlace k2_NoPlace k3_NoPlace k5_NoPlace "ValueError.__new__"))
    (ve_NoPlace : PySem.HandSPX.refsVE bm_NoPlace = true)
    (sa_NoPlace : PySem.W.findIn K (.ref c_NoPlace) "__setattr__" = some (some (.builtin "object.__setattr__")))
    (eb_NoPlace : PySem.W.subIn K (.ref c_NoPlace) (.type "BaseException") = some true)
    (ev_NoPlace : PySem.W.subIn K (.ref c_NoPlace) (.type "ValueError") = some true)
    (ty_NoPlace : PySem.W.typeIn K (.ref c_NoPlace) = some (.type "type"))
    (kc_NoPlace : PySem.W.keepIn K (.ref c_NoPlace) = true)
    (ga_NoPlace : PySem.W.findIn K (.ref c_NoPlace) "__getattribute__" = some (some (.builtin "BaseException.__getattribute__")))
    (gg_NoPlace : PySem.W.findIn K (.ref c_NoPlace) "__getattr__" = some none)
    (nf_NoPlace : PySem.W.findIn K (.ref c_NoPlace) "at" = some none)
    (hd_NoPlace : PySem.W.hasDictIn K c_NoPlace = true)
    (mc_NoPlace : PySem.W.mroIn K c_NoPlace (.ref c_NoPlace) = some true)
    (si_NoPlace : PySem.W.ks_superIn K c_NoPlace c_NoPlace "__init__" = some (some (.builtin "ValueError.__init__")))
    (i_NoPlace_init : PySem.W.findIn K (.ref c_NoPlace) "__init__" = some (some (.ref f_NoPlace_init)))
    (t_NoPlace_init : PySem.W.typeIn K (.ref f_NoPlace_init) = some (.type "function"))
    (l_NoPlace_init : K.lookup f_NoPlace_init = some ⟨oc_NoPlace_init, od_NoPlace_init, .func (PySem.W.ksFn "__init__" "NoPlace.__init__" (defArgs s_NoPlace_init) (defBody s_NoPlace_init) (defScope s_NoPlace_init) .none kV_NoPlace_init dc_NoPlace_init pm_NoPlace_init an_NoPlace_init (.ref cda_NoPlace_init) ct_NoPlace_init cc_NoPlace_init), sl_NoPlace_init⟩)
    (d_NoPlace_init : PySem.W.codeIn K (.ref cda_NoPlace_init) "NoPlace.__init__" = true)
    (e_NoPlace_init : K.lookup cda_NoPlace_init = some ⟨ccl_NoPlace_init, cdd_NoPlace_init, .fields vs_NoPlace_init, cs_NoPlace_init⟩)
    (v_NoPlace_init : vs_NoPlace_init[2]? = some (.str fl_NoPlace_init tf_NoPlace_init))
    (g_NoPlace_init : ((prg.main.file : Str) == fl_NoPlace_init) = true)
    (h_NoPlace_init : K.lookup cc_NoPlace_init = some ⟨cl_NoPlace_init, cld_NoPlace_init, .cell (some (.ref c_NoPlace)), ls_NoPlace_init⟩)
    (em_NoPlace_BadSign : PySem.W.exmOne K (.ref c_NoPlace) (.ref c_BadSign) = some false)
    (em_NoPlace_NoPlace : PySem.W.exmOne K (.ref c_NoPlace) (.ref c_NoPlace) = some true)
    (a_Mismatch : PySem.W.nsIn K mainGlobals "Mismatch" = some (some (.ref c_Mismatch)))
    (l_Mismatch : K.lookup c_Mismatch = some (excClassObj nm_Mismatch q_Mismatch c_Mismatch N_Mismatch bs_Mismatch bm_Mismatch true sn_Mismatch sub_Mismatch ab_Mismatch col_Mismatch dd_Mismatch k0_Mismatch k1_Mismatch k2_Mismatch k3_Mismatch k5_Mismatch "ValueError.__new__"))
    (ve_Mismatch : PySem.HandSPX.refsVE bm_Mismatch = true)
    (sa_Mismatch : PySem.W.findIn K (.ref c_Mismatch) "__setattr__" = some (some (.builtin "object.__setattr__")))
    (eb_Mismatch : PySem.W.subIn K (.ref c_Mismatch) (.type "BaseException") = some true)
    (ev_Mismatch : PySem.W.subIn K (.ref c_Mismatch) (.type "ValueError") = some true)
    (ty_Mismatch : PySem.W.typeIn K (.ref c_Mismatch) = some (.type "type"))
    (kc_Mismatch : PySem.W.keepIn K (.ref c_Mismatch) = true)
    (ga_Mismatch : PySem.W.findIn K (.ref c_Mismatch) "__getattribute__" = some (some (.builtin "BaseException.__getattribute__")))
    (gg_Mismatch : PySem.W.findIn K (.ref c_Mismatch) "__getattr__" = some none)
    (nf_Mismatch : PySem.W.findIn K (.ref c_Mismatch) "at" = some none)
    (hd_Mismatch : PySem.W.hasDictIn K c_Mismatch = true)
    (mc_Mismatch : PySem.W.mroIn K c_Mismatch (.ref c_Mismatch) = some true)
    (si_Mismatch : PySem.W.ks_superIn K c_Mismatch c_Mismatch "__init__" = some (some (.builtin "ValueError.__init__")))
    (i_Mismatch_init : PySem.W.findIn K (.ref c_Mismatch) "__init__" = some (some (.ref f_Mismatch_init)))
    (t_Mismatch_init : PySem.W.typeIn K (.ref f_Mismatch_init) = some (.type "function"))
    (l_Mismatch_init : K.lookup f_Mismatch_init = some ⟨oc_Mismatch_init, od_Mismatch_init, .func (PySem.W.ksFn "__init__" "Mismatch.__init__" (defArgs s_Mismatch_init) (defBody s_Mismatch_init) (defScope s_Mismatch_init) .none kV_Mismatch_init dc_Mismatch_init pm_Mismatch_init an_Mismatch_init (.ref cda_Mismatch_init) ct_Mismatch_init cc_Mismatch_init), sl_Mismatch_init⟩)
    (d_Mismatch_init : PySem.W.codeIn K (.ref cda_Mismatch_init) "Mismatch.__init__" = true)
    (e_Mismatch_init : K.lookup cda_Mismatch_init = some ⟨ccl_Mismatch_init, cdd_Mismatch_init, .fields vs_Mismatch_init, cs_Mismatch_init⟩)
    (v_Mismatch_init : vs_Mismatch_init[2]? = some (.str fl_Mismatch_init tf_Mismatch_init))
    (g_Mismatch_init : ((prg.main.file : Str) == fl_Mismatch_init) = true)
    (h_Mismatch_init : K.lookup cc_Mismatch_init = some ⟨cl_Mismatch_init, cld_Mismatch_init, .cell (some (.ref c_Mismatch)), ls_Mismatch_init⟩)
    (em_Mismatch_BadSign : PySem.W.exmOne K (.ref c_Mismatch) (.ref c_BadSign) = some false)
    (em_Mismatch_NoPlace : PySem.W.exmOne K (.ref c_Mismatch) (.ref c_NoPlace) = some false)
    (em_Mismatch_Mismatch : PySem.W.exmOne K (.ref c_Mismatch) (.ref c_Mismatch) = some true)
    (a_BadHeight : PySem.W.nsIn K mainGlobals "BadHeight" = some (some (.ref c_BadHeight)))
    (l_BadHeight : K.lookup c_BadHeight = some (excClassObj nm_BadHeight q_BadHeight c_BadHeight N_BadHeight bs_BadHeight bm_BadHeight true sn_BadHeight sub_BadHeight ab_BadHeight col_BadHeight dd_BadHeight k0_BadHeight k1_BadHeight k2_BadHeight k3_BadHeight k5_BadHeight "ValueError.__new__"))
    (ve_BadHeight : PySem.HandSPX.refsVE bm_BadHeight = true)
    (sa_BadHeight : PySem.W.findIn K (.ref c_BadHeight) "__setattr__" = some (some (.builtin "object.__setattr__")))
    (eb_BadHeight : PySem.W.subIn K (.ref c_BadHeight) (.type "BaseException") = some true)
    (ev_BadHeight : PySem.W.subIn K (.ref c_BadHeight) (.type "ValueError") = some true)
    (ty_BadHeight : PySem.W.typeIn K (.ref c_BadHeight) = some (.type "type"))
    (kc_BadHeight : PySem.W.keepIn K (.ref c_BadHeight) = true)
    (ga_BadHeight : PySem.W.findIn K (.ref c_BadHeight) "__getattribute__" = some (some (.builtin "BaseException.__getattribute__")))
    (gg_BadHeight : PySem.W.findIn K (.ref c_BadHeight) "__getattr__" = some none)
    (nf_BadHeight : PySem.W.findIn K (.ref c_BadHeight) "height" = some none)
    (hd_BadHeight : PySem.W.hasDictIn K c_BadHeight = true)
    (mc_BadHeight : PySem.W.mroIn K c_BadHeight (.ref c_BadHeight) = some true)
    (si_BadHeight : PySem.W.ks_superIn K c_BadHeight c_BadHeight "__init__" = some (some (.builtin "ValueError.__init__")))
    (i_BadHeight_init : PySem.W.findIn K (.ref c_BadHeight) "__init__" = some (some (.ref f_BadHeight_init)))
    (t_BadHeight_init : PySem.W.typeIn K (.ref f_BadHeight_init) = some (.type "function"))
    (l_BadHeight_init : K.lookup f_BadHeight_init = some ⟨oc_BadHeight_init, od_BadHeight_init, .func (PySem.W.ksFn "__init__" "BadHeight.__init__" (defArgs s_BadHeight_init) (defBody s_BadHeight_init) (defScope s_BadHeight_init) .none kV_BadHeight_init dc_BadHeight_init pm_BadHeight_init an_BadHeight_init (.ref cda_BadHeight_init) ct_BadHeight_init cc_BadHeight_init), sl_BadHeight_init⟩)
    (d_BadHeight_init : PySem.W.codeIn K (.ref cda_BadHeight_init) "BadHeight.__init__" = true)
    (e_BadHeight_init : K.lookup cda_BadHeight_init = some ⟨ccl_BadHeight_init, cdd_BadHeight_init, .fields vs_BadHeight_init, cs_BadHeight_init⟩)
    (v_BadHeight_init : vs_BadHeight_init[2]? = some (.str fl_BadHeight_init tf_BadHeight_init))
    (g_BadHeight_init : ((prg.main.file : Str) == fl_BadHeight_init) = true)
    (h_BadHeight_init : K.lookup cc_BadHeight_init = some ⟨cl_BadHeight_init, cld_BadHeight_init, .cell (some (.ref c_BadHeight)), ls_BadHeight_init⟩)
    (em_BadHeight_BadSign : PySem.W.exmOne K (.ref c_BadHeight) (.ref c_BadSign) = some false)
    (em_BadHeight_NoPlace : PySem.W.exmOne K (.ref c_BadHeight) (.ref c_NoPlace) = some false)
    (em_BadHeight_Mismatch : PySem.W.exmOne K (.ref c_BadHeight) (.ref c_Mismatch) = some false)
    (em_BadHeight_BadHeight : PySem.W.exmOne K (.ref c_BadHeight) (.ref c_BadHeight) = some true)
    (a_Beyond : PySem.W.nsIn K mainGlobals "Beyond" = some (some (.ref c_Beyond)))
    (l_Beyond : K.lookup c_Beyond = some (excClassObj nm_Beyond q_Beyond c_Beyond N_Beyond bs_Beyond bm_Beyond true sn_Beyond sub_Beyond ab_Beyond col_Beyond dd_Beyond k0_Beyond k1_Beyond k2_Beyond k3_Beyond k5_Beyond "ValueError.__new__"))
    (ve_Beyond : PySem.HandSPX.refsVE bm_Beyond = true)
    (sa_Beyond : PySem.W.findIn K (.ref c_Beyond) "__setattr__" = some (some (.builtin "object.__setattr__")))
    (eb_Beyond : PySem.W.subIn K (.ref c_Beyond) (.type "BaseException") = some true)
    (ev_Beyond : PySem.W.subIn K (.ref c_Beyond) (.type "ValueError") = some true)
    (ty_Beyond : PySem.W.typeIn K (.ref c_Beyond) = some (.type "type"))
    (kc_Beyond : PySem.W.keepIn K (.ref c_Beyond) = true)
    (ga_Beyond : PySem.W.findIn K (.ref c_Beyond) "__getattribute__" = some (some (.builtin "BaseException.__getattribute__")))
    (gg_Beyond : PySem.W.findIn K (.ref c_Beyond) "__getattr__" = some none)
    (nf_Beyond : PySem.W.findIn K (.ref c_Beyond) "height" = some none)
    (hd_Beyond : PySem.W.hasDictIn K c_Beyond = true)
    (mc_Beyond : PySem.W.mroIn K c_Beyond (.ref c_Beyond) = some true)
    (si_Beyond : PySem.W.ks_superIn K c_Beyond c_Beyond "__init__" = some (some (.builtin "ValueError.__init__")))
    (i_Beyond_init : PySem.W.findIn K (.ref c_Beyond) "__init__" = some (some (.ref f_Beyond_init)))
    (t_Beyond_init : PySem.W.typeIn K (.ref f_Beyond_init) = some (.type "function"))
    (l_Beyond_init : K.lookup f_Beyond_init = some ⟨oc_Beyond_init, od_Beyond_init, .func (PySem.W.ksFn "__init__" "Beyond.__init__" (defArgs s_Beyond_init) (defBody s_Beyond_init) (defScope s_Beyond_init) .none kV_Beyond_init dc_Beyond_init pm_Beyond_init an_Beyond_init (.ref cda_Beyond_init) ct_Beyond_init cc_Beyond_init), sl_Beyond_init⟩)
    (d_Beyond_init : PySem.W.codeIn K (.ref cda_Beyond_init) "Beyond.__init__" = true)
    (e_Beyond_init : K.lookup cda_Beyond_init = some ⟨ccl_Beyond_init, cdd_Beyond_init, .fields vs_Beyond_init, cs_Beyond_init⟩)
    (v_Beyond_init : vs_Beyond_init[2]? = some (.str fl_Beyond_init tf_Beyond_init))
    (g_Beyond_init : ((prg.main.file : Str) == fl_Beyond_init) = true)
    (h_Beyond_init : K.lookup cc_Beyond_init = some ⟨cl_Beyond_init, cld_Beyond_init, .cell (some (.ref c_Beyond)), ls_Beyond_init⟩)
    (em_Beyond_BadSign : PySem.W.exmOne K (.ref c_Beyond) (.ref c_BadSign) = some false)
    (em_Beyond_NoPlace : PySem.W.exmOne K (.ref c_Beyond) (.ref c_NoPlace) = some false)
    (em_Beyond_Mismatch : PySem.W.exmOne K (.ref c_Beyond) (.ref c_Mismatch) = some false)
    (em_Beyond_BadHeight : PySem.W.exmOne K (.ref c_Beyond) (.ref c_BadHeight) = some false)
    (em_Beyond_Beyond : PySem.W.exmOne K (.ref c_Beyond) (.ref c_Beyond) = some true)
    (a_Uneven : PySem.W.nsIn K mainGlobals "Uneven" = some (some (.ref c_Uneven)))
    (o_Uneven : PySem.W.excIn K c_Uneven [.type "ValueError", .type "Exception", .type "BaseException", .type "object"] "ValueError.__new__" = true)
    (kp_Uneven : PySem.W.keepIn K (.ref c_Uneven) = true)
    (r_Uneven : PySem.W.subIn K (.ref c_Uneven) (.type "BaseException") = some true)
    (t_Uneven : PySem.W.typeIn K (.ref c_Uneven) = some (.type "type"))
    (em_Uneven_BadSign : PySem.W.exmOne K (.ref c_Uneven) (.ref c_BadSign) = some false)
    (em_Uneven_NoPlace : PySem.W.exmOne K (.ref c_Uneven) (.ref c_NoPlace) = some false)
    (em_Uneven_Mismatch : PySem.W.exmOne K (.ref c_Uneven) (.ref c_Mismatch) = some false)
    (em_Uneven_BadHeight : PySem.W.exmOne K (.ref c_Uneven) (.ref c_BadHeight) = some false)
    (em_Uneven_Beyond : PySem.W.exmOne K (.ref c_Uneven) (.ref c_Beyond) = some false)
    (em_Uneven_Uneven : PySem.W.exmOne K (.ref c_Uneven) (.ref c_Uneven) = some true)
    (a_BadRule : PySem.W.nsIn K mainGlobals "BadRule" = some (some (.ref c_BadRule)))
    (o_BadRule : PySem.W.excIn K c_BadRule [.type "ValueError", .type "Exception", .type "BaseException", .type "object"] "ValueError.__new__" = true)
    (kp_BadRule : PySem.W.keepIn K (.ref c_BadRule) = true)
    (r_BadRule : PySem.W.subIn K (.ref c_BadRule) (.type "BaseException") = some true)
    (t_BadRule : PySem.W.typeIn K (.ref c_BadRule) = some (.type "type"))
    (em_BadRule_BadSign : PySem.W.exmOne K (.ref c_BadRule) (.ref c_BadSign) = some false)
    (em_BadRule_NoPlace : PySem.W.exmOne K (.ref c_BadRule) (.ref c_NoPlace) = some false)
    (em_BadRule_Mismatch : PySem.W.exmOne K (.ref c_BadRule) (.ref c_Mismatch) = some false)
    (em_BadRule_BadHeight : PySem.W.exmOne K (.ref c_BadRule) (.ref c_BadHeight) = some false)
    (em_BadRule_Beyond : PySem.W.exmOne K (.ref c_BadRule) (.ref c_Beyond) = some false)
    (em_BadRule_Uneven : PySem.W.exmOne K (.ref c_BadRule) (.ref c_Uneven) = some false)
    (em_BadRule_BadRule : PySem.W.exmOne K (.ref c_BadRule) (.ref c_BadRule) = some true)
    (em_BadSign_NoPlace : PySem.W.exmOne K (.ref c_BadSign) (.ref c_NoPlace) = some false)
    (em_BadSign_Mismatch : PySem.W.exmOne K (.ref c_BadSign) (.ref c_Mismatch) = some false)
    (em_BadSign_BadHeight : PySem.W.exmOne K (.ref c_BadSign) (.ref c_BadHeight) = some false)
    (em_BadSign_Beyond : PySem.W.exmOne K (.ref c_BadSign) (.ref c_Beyond) = some false)
    (em_BadSign_Uneven : PySem.W.exmOne K (.ref c_BadSign) (.ref c_Uneven) = some false)
    (em_BadSign_BadRule : PySem.W.exmOne K (.ref c_BadSign) (.ref c_BadRule) = some false)
    (em_NoPlace_Mismatch : PySem.W.exmOne K (.ref c_NoPlace) (.ref c_Mismatch) = some false)
    (em_NoPlace_BadHeight : PySem.W.exmOne K (.ref c_NoPlace) (.ref c_BadHeight) = some false)
    (em_NoPlace_Beyond : PySem.W.exmOne K (.ref c_NoPlace) (.ref c_Beyond) = some false)
    (em_NoPlace_Uneven : PySem.W.exmOne K (.ref c_NoPlace) (.ref c_Uneven) = some false)
    (em_NoPlace_BadRule : PySem.W.exmOne K (.ref c_NoPlace) (.ref c_BadRule) = some false)
    (em_Mismatch_BadHeight : PySem.W.exmOne K (.ref c_Mismatch) (.ref c_BadHeight) = some false)
    (em_Mismatch_Beyond : PySem.W.exmOne K (.ref c_Mismatch) (.ref c_Beyond) = some false)
    (em_Mismatch_Uneven : PySem.W.exmOne K (.ref c_Mismatch) (.ref c_Uneven) = some false)
    (em_Mismatch_BadRule : PySem.W.exmOne K (.ref c_Mismatch) (.ref c_BadRule) = some false)
    (em_BadHeight_Beyond : PySem.W.exmOne K (.ref c_BadHeight) (.ref c_Beyond) = some false)
    (em_BadHeight_Uneven : PySem.W.exmOne K (.ref c_BadHeight) (.ref c_Uneven) = some false)
    (em_BadHeight_BadRule : PySem.W.exmOne K (.ref c_BadHeight) (.ref c_BadRule) = some false)
    (em_Beyond_Uneven : PySem.W.exmOne K (.ref c_Beyond) (.ref c_Uneven) = some false)
    (em_Beyond_BadRule : PySem.W.exmOne K (.ref c_Beyond) (.ref c_BadRule) = some false)
    (em_Uneven_BadRule : PySem.W.exmOne K (.ref c_Uneven) (.ref c_BadRule) = some false)
    (z_super : PySem.W.nsIn K mainGlobals "super" = some none)
    (ops : PySem.W.nsIn K cStatics "thirdparty.any" = some none)
    (a_Row : PySem.W.nsIn K mainGlobals "Row" = some (some (.ref c_Row)))
    (pg_Row : PySem.W.plainGet K c_Row Str.empty = true)
    (hd_Row : PySem.W.hasDictIn K c_Row = true)
    (po_Row : PySem.W.plainOver K c_Row = true)
    (sa_Row : PySem.W.findIn K (.ref c_Row) "__setattr__" = some (some (.builtin "object.__setattr__")))
    (mk_Row : PySem.W.makesIn K c_Row = true)
    (kc_Row : PySem.W.keepIn K (.ref c_Row) = true)
    (j0_Row : PySem.W.findIn K (.ref c_Row) "__class__" = some (some (.builtin "object.__class__")))
    (j1_Row : PySem.W.specialIn K (.builtin "object.__class__") "__get__" = some (some (.builtin "getset_descriptor.__get__")))
    (j2_Row : PySem.W.takesIn K (.builtin "object.__class__") = some true)
    (j3_Row : PySem.W.mroIn K c_Row (.type "object") = some true)
    (j4_Row : PySem.W.kitOne K (.ref c_Row) (.ref c_Row) = some true)
    (sf_Row : PySem.W.selfFirst K c_Row = true)
    (nsq_Row : PySem.W.noSeq K c_Row = true)
    (na_Row__pairs : PySem.W.findIn K (.ref c_Row) "_pairs" = some none)
    (a_Rule : PySem.W.nsIn K mainGlobals "Rule" = some (some (.ref c_Rule)))
    (pg_Rule : PySem.W.plainGet K c_Rule Str.empty = true)
    (hd_Rule : PySem.W.hasDictIn K c_Rule = true)
    (po_Rule : PySem.W.plainOver K c_Rule = true)
    (sa_Rule : PySem.W.findIn K (.ref c_Rule) "__setattr__" = some (some (.builtin "object.__setattr__")))
    (mk_Rule : PySem.W.makesIn K c_Rule = true)
    (kc_Rule : PySem.W.keepIn K (.ref c_Rule) = true)
    (j0_Rule : PySem.W.findIn K (.ref c_Rule) "__class__" = some (some (.builtin "object.__class__")))
    (j1_Rule : PySem.W.specialIn K (.builtin "object.__class__") "__get__" = some (some (.builtin "getset_descriptor.__get__")))
    (j2_Rule : PySem.W.takesIn K (.builtin "object.__class__") = some true)
    (j3_Rule : PySem.W.mroIn K c_Rule (.type "object") = some true)
    (j4_Rule : PySem.W.kitOne K (.ref c_Rule) (.ref c_Rule) = some true)
    (sf_Rule : PySem.W.selfFirst K c_Rule = true)
    (na_Rule_left : PySem.W.findIn K (.ref c_Rule) "left" = some none)
    (na_Rule_right : PySem.W.findIn K (.ref c_Rule) "right" = some none)
    (a_check_text : PySem.W.nsIn K mainGlobals "check_text" = some (some (.ref f_check_text)))
    (l_check_text : K.lookup f_check_text = some ⟨oc_check_text, od_check_text, .func (PySem.W.fnOf "check_text" "check_text" (defArgs s_check_text) (defBody s_check_text) (defScope s_check_text) .none kV_check_text dc_check_text pm_check_text an_check_text cd_check_text ct_check_text), sl_check_text⟩)
    (d_check_text : PySem.W.codeIn K cd_check_text "check_text" = true)
    (k_check_text : PySem.W.keepIn K (.ref f_check_text) = true)
    (a_decoded : PySem.W.nsIn K mainGlobals "decoded" = some (some (.ref f_decoded)))
    (l_decoded : K.lookup f_decoded = some ⟨oc_decoded, od_decoded, .func (PySem.W.fnOf "decoded" "decoded" (defArgs s_decoded) (defBody s_decoded) (defScope s_decoded) .none kV_decoded dc_decoded pm_decoded an_decoded cd_decoded ct_decoded), sl_decoded⟩)
    (d_decoded : PySem.W.codeIn K cd_decoded "decoded" = true)
    (k_decoded : PySem.W.keepIn K (.ref f_decoded) = true)
    (a_is_sign : PySem.W.nsIn K mainGlobals "is_sign" = some (some (.ref f_is_sign)))
    (l_is_sign : K.lookup f_is_sign = some ⟨oc_is_sign, od_is_sign, .func (PySem.W.fnOf "is_sign" "is_sign" (defArgs s_is_sign) (defBody s_is_sign) (defScope s_is_sign) .none kV_is_sign dc_is_sign pm_is_sign an_is_sign cd_is_sign ct_is_sign), sl_is_sign⟩)
    (d_is_sign : PySem.W.codeIn K cd_is_sign "is_sign" = true)
    (k_is_sign : PySem.W.keepIn K (.ref f_is_sign) = true)
    (a_check_height : PySem.W.nsIn K mainGlobals "check_height" = some (some (.ref f_check_height)))
    (l_check_height : K.lookup f_check_height = some ⟨oc_check_height, od_check_height, .func (PySem.W.fnOf "check_height" "check_height" (defArgs s_check_height) (defBody s_check_height) (defScope s_check_height) .none kV_check_height dc_check_height pm_check_height an_check_height cd_check_height ct_check_height), sl_check_height⟩)
    (d_check_height : PySem.W.codeIn K cd_check_height "check_height" = true)
    (k_check_height : PySem.W.keepIn K (.ref f_check_height) = true)
    (a_Row_init : PySem.W.findIn K (.ref c_Row) "__init__" = some (some (.ref f_Row_init)))
    (i_Row_init : PySem.W.isFn K (.ref f_Row_init) = true)
    (l_Row_init : K.lookup f_Row_init = some ⟨oc_Row_init, od_Row_init, .func (PySem.W.fnOf "__init__" "Row.__init__" (defArgs s_Row_init) (defBody s_Row_init) (defScope s_Row_init) (.ref dT_Row_init) kV_Row_init dc_Row_init pm_Row_init an_Row_init cd_Row_init ct_Row_init), sl_Row_init⟩)
    (d_Row_init : PySem.W.codeIn K cd_Row_init "Row.__init__" = true)
    (k_Row_init : PySem.W.keepIn K (.ref f_Row_init) = true)
    (u_Row_init : K.lookup dT_Row_init = some ⟨uc_Row_init, ud_Row_init, .seq ([.str "" tk0_Row_init, .none] : List Value).toArray un_Row_init, us_Row_init⟩)
    (a_Row_signs : PySem.W.findIn K (.ref c_Row) "signs" = some (some (.ref p_Row_signs)))
    (pg_Row_signs : PySem.W.specialIn K (.ref p_Row_signs) "__get__" = some (some (.builtin "property.__get__")))
    (pt_Row_signs : PySem.W.takesIn K (.ref p_Row_signs) = some true)
    (pr_Row_signs : PySem.W.recIn K p_Row_signs "property" = some (.ref f_Row_signs :: rs_Row_signs))
    (l_Row_signs : K.lookup f_Row_signs = some ⟨oc_Row_signs, od_Row_signs, .func (PySem.W.fnOf "signs" "Row.signs" (defArgs s_Row_signs) (defBody s_Row_signs) (defScope s_Row_signs) .none kV_Row_signs dc_Row_signs pm_Row_signs an_Row_signs cd_Row_signs ct_Row_signs), sl_Row_signs⟩)
    (d_Row_signs : PySem.W.codeIn K cd_Row_signs "Row.signs" = true)
    (k_Row_signs : PySem.W.keepIn K (.ref f_Row_signs) = true)
    (a_Row_heights : PySem.W.findIn K (.ref c_Row) "heights" = some (some (.ref p_Row_heights)))
    (pg_Row_heights : PySem.W.specialIn K (.ref p_Row_heights) "__get__" = some (some (.builtin "property.__get__")))
    (pt_Row_heights : PySem.W.takesIn K (.ref p_Row_heights) = some true)
    (pr_Row_heights : PySem.W.recIn K p_Row_heights "property" = some (.ref f_Row_heights :: rs_Row_heights))
    (l_Row_heights : K.lookup f_Row_heights = some ⟨oc_Row_heights, od_Row_heights, .func (PySem.W.fnOf "heights" "Row.heights" (defArgs s_Row_heights) (defBody s_Row_heights) (defScope s_Row_heights) .none kV_Row_heights dc_Row_heights pm_Row_heights an_Row_heights cd_Row_heights ct_Row_heights), sl_Row_heights⟩)
    (d_Row_heights : PySem.W.codeIn K cd_Row_heights "Row.heights" = true)
    (k_Row_heights : PySem.W.keepIn K (.ref f_Row_heights) = true)
    (a_Row_len : PySem.W.findIn K (.ref c_Row) "__len__" = some (some (.ref f_Row_len)))
    (i_Row_len : PySem.W.isFn K (.ref f_Row_len) = true)
    (l_Row_len : K.lookup f_Row_len = some ⟨oc_Row_len, od_Row_len, .func (PySem.W.fnOf "__len__" "Row.__len__" (defArgs s_Row_len) (defBody s_Row_len) (defScope s_Row_len) .none kV_Row_len dc_Row_len pm_Row_len an_Row_len cd_Row_len ct_Row_len), sl_Row_len⟩)
    (d_Row_len : PySem.W.codeIn K cd_Row_len "Row.__len__" = true)
    (k_Row_len : PySem.W.keepIn K (.ref f_Row_len) = true)
    (a_Row_iter : PySem.W.findIn K (.ref c_Row) "__iter__" = some (some (.ref f_Row_iter)))
    (i_Row_iter : PySem.W.isFn K (.ref f_Row_iter) = true)
    (l_Row_iter : K.lookup f_Row_iter = some ⟨oc_Row_iter, od_Row_iter, .func (PySem.W.fnOf "__iter__" "Row.__iter__" (defArgs s_Row_iter) (defBody s_Row_iter) (defScope s_Row_iter) .none kV_Row_iter dc_Row_iter pm_Row_iter an_Row_iter cd_Row_iter ct_Row_iter), sl_Row_iter⟩)
    (d_Row_iter : PySem.W.codeIn K cd_Row_iter "Row.__iter__" = true)
    (k_Row_iter : PySem.W.keepIn K (.ref f_Row_iter) = true)
    (a_Row_abs : PySem.W.findIn K (.ref c_Row) "__abs__" = some (some (.ref f_Row_abs)))
    (i_Row_abs : PySem.W.isFn K (.ref f_Row_abs) = true)
    (l_Row_abs : K.lookup f_Row_abs = some ⟨oc_Row_abs, od_Row_abs, .func (PySem.W.fnOf "__abs__" "Row.__abs__" (defArgs s_Row_abs) (defBody s_Row_abs) (defScope s_Row_abs) .none kV_Row_abs dc_Row_abs pm_Row_abs an_Row_abs cd_Row_abs ct_Row_abs), sl_Row_abs⟩)
    (d_Row_abs : PySem.W.codeIn K cd_Row_abs "Row.__abs__" = true)
    (k_Row_abs : PySem.W.keepIn K (.ref f_Row_abs) = true)
    (a_Row_check_place : PySem.W.findIn K (.ref c_Row) "_check_place" = some (some (.ref f_Row_check_place)))
    (i_Row_check_place : PySem.W.isFn K (.ref f_Row_check_place) = true)
    (l_Row_check_place : K.lookup f_Row_check_place = some ⟨oc_Row_check_place, od_Row_check_place, .func (PySem.W.fnOf "_check_place" "Row._check_place" (defArgs s_Row_check_place) (defBody s_Row_check_place) (defScope s_Row_check_place) .none kV_Row_check_place dc_Row_check_place pm_Row_check_place an_Row_check_place cd_Row_check_place ct_Row_check_place), sl_Row_check_place⟩)
    (d_Row_check_place : PySem.W.codeIn K cd_Row_check_place "Row._check_place" = true)
    (k_Row_check_place : PySem.W.keepIn K (.ref f_Row_check_place) = true)
    (a__row_of : PySem.W.nsIn K mainGlobals "_row_of" = some (some (.ref f__row_of)))
    (l__row_of : K.lookup f__row_of = some ⟨oc__row_of, od__row_of, .func (PySem.W.fnOf "_row_of" "_row_of" (defArgs s__row_of) (defBody s__row_of) (defScope s__row_of) .none kV__row_of dc__row_of pm__row_of an__row_of cd__row_of ct__row_of), sl__row_of⟩)
    (d__row_of : PySem.W.codeIn K cd__row_of "_row_of" = true)
    (k__row_of : PySem.W.keepIn K (.ref f__row_of) = true)
    (a_Row_getitem : PySem.W.findIn K (.ref c_Row) "__getitem__" = some (some (.ref f_Row_getitem)))
    (i_Row_getitem : PySem.W.isFn K (.ref f_Row_getitem) = true)
    (l_Row_getitem : K.lookup f_Row_getitem = some ⟨oc_Row_getitem, od_Row_getitem, .func (PySem.W.fnOf "__getitem__" "Row.__getitem__" (defArgs s_Row_getitem) (defBody s_Row_getitem) (defScope s_Row_getitem) .none kV_Row_getitem dc_Row_getitem pm_Row_getitem an_Row_getitem cd_Row_getitem ct_Row_getitem), sl_Row_getitem⟩)
    (d_Row_getitem : PySem.W.codeIn K cd_Row_getitem "Row.__getitem__" = true)
    (k_Row_getitem : PySem.W.keepIn K (.ref f_Row_getitem) = true)
    (a_Row_setitem : PySem.W.findIn K (.ref c_Row) "__setitem__" = some (some (.ref f_Row_setitem)))
    (i_Row_setitem : PySem.W.isFn K (.ref f_Row_setitem) = true)
    (l_Row_setitem : K.lookup f_Row_setitem = some ⟨oc_Row_setitem, od_Row_setitem, .func (PySem.W.fnOf "__setitem__" "Row.__setitem__" (defArgs s_Row_setitem) (defBody s_Row_setitem) (defScope s_Row_setitem) .none kV_Row_setitem dc_Row_setitem pm_Row_setitem an_Row_setitem cd_Row_setitem ct_Row_setitem), sl_Row_setitem⟩)
    (d_Row_setitem : PySem.W.codeIn K cd_Row_setitem "Row.__setitem__" = true)
    (k_Row_setitem : PySem.W.keepIn K (.ref f_Row_setitem) = true)
    (a_Rule_init : PySem.W.findIn K (.ref c_Rule) "__init__" = some (some (.ref f_Rule_init)))
    (i_Rule_init : PySem.W.isFn K (.ref f_Rule_init) = true)
    (l_Rule_init : K.lookup f_Rule_init = some ⟨oc_Rule_init, od_Rule_init, .func (PySem.W.fnOf "__init__" "Rule.__init__" (defArgs s_Rule_init) (defBody s_Rule_init) (defScope s_Rule_init) (.ref dT_Rule_init) kV_Rule_init dc_Rule_init pm_Rule_init an_Rule_init cd_Rule_init ct_Rule_init), sl_Rule_init⟩)
    (d_Rule_init : PySem.W.codeIn K cd_Rule_init "Rule.__init__" = true)
    (k_Rule_init : PySem.W.keepIn K (.ref f_Rule_init) = true)
    (u_Rule_init : K.lookup dT_Rule_init = some ⟨uc_Rule_init, ud_Rule_init, .seq ([.str "" tk0_Rule_init] : List Value).toArray un_Rule_init, us_Rule_init⟩)
    (a_Rule_str : PySem.W.findIn K (.ref c_Rule) "__str__" = some (some (.ref f_Rule_str)))
    (i_Rule_str : PySem.W.isFn K (.ref f_Rule_str) = true)
    (l_Rule_str : K.lookup f_Rule_str = some ⟨oc_Rule_str, od_Rule_str, .func (PySem.W.fnOf "__str__" "Rule.__str__" (defArgs s_Rule_str) (defBody s_Rule_str) (defScope s_Rule_str) .none kV_Rule_str dc_Rule_str pm_Rule_str an_Rule_str cd_Rule_str ct_Rule_str), sl_Rule_str⟩)
    (d_Rule_str : PySem.W.codeIn K cd_Rule_str "Rule.__str__" = true)
    (k_Rule_str : PySem.W.keepIn K (.ref f_Rule_str) = true)
    (a__fits : PySem.W.nsIn K mainGlobals "_fits" = some (some (.ref f__fits)))
    (l__fits : K.lookup f__fits = some ⟨oc__fits, od__fits, .func (PySem.W.fnOf "_fits" "_fits" (defArgs s__fits) (defBody s__fits) (defScope s__fits) .none kV__fits dc__fits pm__fits an__fits cd__fits ct__fits), sl__fits⟩)
    (d__fits : PySem.W.codeIn K cd__fits "_fits" = true)
    (k__fits : PySem.W.keepIn K (.ref f__fits) = true)
    (a__stepped : PySem.W.nsIn K mainGlobals "_stepped" = some (some (.ref f__stepped)))
    (l__stepped : K.lookup f__stepped = some ⟨oc__stepped, od__stepped, .func (PySem.W.fnOf "_stepped" "_stepped" (defArgs s__stepped) (defBody s__stepped) (defScope s__stepped) .none kV__stepped dc__stepped pm__stepped an__stepped cd__stepped ct__stepped), sl__stepped⟩)
    (d__stepped : PySem.W.codeIn K cd__stepped "_stepped" = true)
    (k__stepped : PySem.W.keepIn K (.ref f__stepped) = true)
    (a_Rule_call : PySem.W.findIn K (.ref c_Rule) "__call__" = some (some (.ref f_Rule_call)))
    (i_Rule_call : PySem.W.isFn K (.ref f_Rule_call) = true)
    (l_Rule_call : K.lookup f_Rule_call = some ⟨oc_Rule_call, od_Rule_call, .func (PySem.W.fnOf "__call__" "Rule.__call__" (defArgs s_Rule_call) (defBody s_Rule_call) (defScope s_Rule_call) (.ref dT_Rule_call) kV_Rule_call dc_Rule_call pm_Rule_call an_Rule_call cd_Rule_call ct_Rule_call), sl_Rule_call⟩)
    (d_Rule_call : PySem.W.codeIn K cd_Rule_call "Rule.__call__" = true)
    (k_Rule_call : PySem.W.keepIn K (.ref f_Rule_call) = true)
    (u_Rule_call : K.lookup dT_Rule_call = some ⟨uc_Rule_call, ud_Rule_call, .seq ([.int 0 tk0_Rule_call] : List Value).toArray un_Rule_call, us_Rule_call⟩)
    (a__law_pool : PySem.W.nsIn K mainGlobals "_law_pool" = some (some (.ref f__law_pool)))
    (l__law_pool : K.lookup f__law_pool = some ⟨oc__law_pool, od__law_pool, .func (PySem.W.fnOf "_law_pool" "_law_pool" (defArgs s__law_pool) (defBody s__law_pool) (defScope s__law_pool) .none kV__law_pool dc__law_pool pm__law_pool an__law_pool cd__law_pool ct__law_pool), sl__law_pool⟩)
    (d__law_pool : PySem.W.codeIn K cd__law_pool "_law_pool" = true)
    (k__law_pool : PySem.W.keepIn K (.ref f__law_pool) = true)
    (a__law_pick : PySem.W.nsIn K mainGlobals "_law_pick" = some (some (.ref f__law_pick)))
    (l__law_pick : K.lookup f__law_pick = some ⟨oc__law_pick, od__law_pick, .func (PySem.W.fnOf "_law_pick" "_law_pick" (defArgs s__law_pick) (defBody s__law_pick) (defScope s__law_pick) .none kV__law_pick dc__law_pick pm__law_pick an__law_pick cd__law_pick ct__law_pick), sl__law_pick⟩)
    (d__law_pick : PySem.W.codeIn K cd__law_pick "_law_pick" = true)
    (k__law_pick : PySem.W.keepIn K (.ref f__law_pick) = true)
    (a__law_alphabet : PySem.W.nsIn K mainGlobals "_law_alphabet" = some (some (.ref f__law_alphabet)))
    (l__law_alphabet : K.lookup f__law_alphabet = some ⟨oc__law_alphabet, od__law_alphabet, .func (PySem.W.fnOf "_law_alphabet" "_law_alphabet" (defArgs s__law_alphabet) (defBody s__law_alphabet) (defScope s__law_alphabet) .none kV__law_alphabet dc__law_alphabet pm__law_alphabet an__law_alphabet cd__law_alphabet ct__law_alphabet), sl__law_alphabet⟩)
    (d__law_alphabet : PySem.W.codeIn K cd__law_alphabet "_law_alphabet" = true)
    (k__law_alphabet : PySem.W.keepIn K (.ref f__law_alphabet) = true)
    (a__law_word_of : PySem.W.nsIn K mainGlobals "_law_word_of" = some (some (.ref f__law_word_of)))
    (l__law_word_of : K.lookup f__law_word_of = some ⟨oc__law_word_of, od__law_word_of, .func (PySem.W.fnOf "_law_word_of" "_law_word_of" (defArgs s__law_word_of) (defBody s__law_word_of) (defScope s__law_word_of) .none kV__law_word_of dc__law_word_of pm__law_word_of an__law_word_of cd__law_word_of ct__law_word_of), sl__law_word_of⟩)
    (d__law_word_of : PySem.W.codeIn K cd__law_word_of "_law_word_of" = true)
    (k__law_word_of : PySem.W.keepIn K (.ref f__law_word_of) = true)
    (a__law_is_int : PySem.W.nsIn K mainGlobals "_law_is_int" = some (some (.ref f__law_is_int)))
    (l__law_is_int : K.lookup f__law_is_int = some ⟨oc__law_is_int, od__law_is_int, .func (PySem.W.fnOf "_law_is_int" "_law_is_int" (defArgs s__law_is_int) (defBody s__law_is_int) (defScope s__law_is_int) .none kV__law_is_int dc__law_is_int pm__law_is_int an__law_is_int cd__law_is_int ct__law_is_int), sl__law_is_int⟩)
    (d__law_is_int : PySem.W.codeIn K cd__law_is_int "_law_is_int" = true)
    (k__law_is_int : PySem.W.keepIn K (.ref f__law_is_int) = true)
    (a__law_take : PySem.W.nsIn K mainGlobals "_law_take" = some (some (.ref f__law_take)))
    (l__law_take : K.lookup f__law_take = some ⟨oc__law_take, od__law_take, .func (PySem.W.fnOf "_law_take" "_law_take" (defArgs s__law_take) (defBody s__law_take) (defScope s__law_take) .none kV__law_take dc__law_take pm__law_take an__law_take cd__law_take ct__law_take), sl__law_take⟩)
    (d__law_take : PySem.W.codeIn K cd__law_take "_law_take" = true)
    (k__law_take : PySem.W.keepIn K (.ref f__law_take) = true)
    (a__law_shows : PySem.W.nsIn K mainGlobals "_law_shows" = some (some (.ref f__law_shows)))
    (l__law_shows : K.lookup f__law_shows = some ⟨oc__law_shows, od__law_shows, .func (PySem.W.fnOf "_law_shows" "_law_shows" (defArgs s__law_shows) (defBody s__law_shows) (defScope s__law_shows) .none kV__law_shows dc__law_shows pm__law_shows an__law_shows cd__law_shows ct__law_shows), sl__law_shows⟩)
    (d__law_shows : PySem.W.codeIn K cd__law_shows "_law_shows" = true)
    (k__law_shows : PySem.W.keepIn K (.ref f__law_shows) = true)
    (a__law_as_row : PySem.W.nsIn K mainGlobals "_law_as_row" = some (some (.ref f__law_as_row)))
    (l__law_as_row : K.lookup f__law_as_row = some ⟨oc__law_as_row, od__law_as_row, .func (PySem.W.fnOf "_law_as_row" "_law_as_row" (defArgs s__law_as_row) (defBody s__law_as_row) (defScope s__law_as_row) .none kV__law_as_row dc__law_as_row pm__law_as_row an__law_as_row cd__law_as_row ct__law_as_row), sl__law_as_row⟩)
    (d__law_as_row : PySem.W.codeIn K cd__law_as_row "_law_as_row" = true)
    (k__law_as_row : PySem.W.keepIn K (.ref f__law_as_row) = true)
    (a__law_due_of : PySem.W.nsIn K mainGlobals "_law_due_of" = some (some (.ref f__law_due_of)))
    (l__law_due_of : K.lookup f__law_due_of = some ⟨oc__law_due_of, od__law_due_of, .func (PySem.W.fnOf "_law_due_of" "_law_due_of" (defArgs s__law_due_of) (defBody s__law_due_of) (defScope s__law_due_of) .none kV__law_due_of dc__law_due_of pm__law_due_of an__law_due_of cd__law_due_of ct__law_due_of), sl__law_due_of⟩)
    (d__law_due_of : PySem.W.codeIn K cd__law_due_of "_law_due_of" = true)
    (k__law_due_of : PySem.W.keepIn K (.ref f__law_due_of) = true)
    (a__law_done : PySem.W.nsIn K mainGlobals "_law_done" = some (some (.ref f__law_done)))
    (l__law_done : K.lookup f__law_done = some ⟨oc__law_done, od__law_done, .func (PySem.W.fnOf "_law_done" "_law_done" (defArgs s__law_done) (defBody s__law_done) (defScope s__law_done) .none kV__law_done dc__law_done pm__law_done an__law_done cd__law_done ct__law_done), sl__law_done⟩)
    (d__law_done : PySem.W.codeIn K cd__law_done "_law_done" = true)
    (k__law_done : PySem.W.keepIn K (.ref f__law_done) = true)
    (a__law_done_named : PySem.W.nsIn K mainGlobals "_law_done_named" = some (some (.ref f__law_done_named)))
    (l__law_done_named : K.lookup f__law_done_named = some ⟨oc__law_done_named, od__law_done_named, .func (PySem.W.fnOf "_law_done_named" "_law_done_named" (defArgs s__law_done_named) (defBody s__law_done_named) (defScope s__law_done_named) .none kV__law_done_named dc__law_done_named pm__law_done_named an__law_done_named cd__law_done_named ct__law_done_named), sl__law_done_named⟩)
    (d__law_done_named : PySem.W.codeIn K cd__law_done_named "_law_done_named" = true)
    (k__law_done_named : PySem.W.keepIn K (.ref f__law_done_named) = true)
    (a__law_done_first : PySem.W.nsIn K mainGlobals "_law_done_first" = some (some (.ref f__law_done_first)))
    (l__law_done_first : K.lookup f__law_done_first = some ⟨oc__law_done_first, od__law_done_first, .func (PySem.W.fnOf "_law_done_first" "_law_done_first" (defArgs s__law_done_first) (defBody s__law_done_first) (defScope s__law_done_first) .none kV__law_done_first dc__law_done_first pm__law_done_first an__law_done_first cd__law_done_first ct__law_done_first), sl__law_done_first⟩)
    (d__law_done_first : PySem.W.codeIn K cd__law_done_first "_law_done_first" = true)
    (k__law_done_first : PySem.W.keepIn K (.ref f__law_done_first) = true)
    (a__law_same : PySem.W.nsIn K mainGlobals "_law_same" = some (some (.ref f__law_same)))
    (l__law_same : K.lookup f__law_same = some ⟨oc__law_same, od__law_same, .func (PySem.W.fnOf "_law_same" "_law_same" (defArgs s__law_same) (defBody s__law_same) (defScope s__law_same) .none kV__law_same dc__law_same pm__law_same an__law_same cd__law_same ct__law_same), sl__law_same⟩)
    (d__law_same : PySem.W.codeIn K cd__law_same "_law_same" = true)
    (k__law_same : PySem.W.keepIn K (.ref f__law_same) = true)
    (a_law : PySem.W.nsIn K mainGlobals "law" = some (some (.ref f_law)))
    (l_law : K.lookup f_law = some ⟨oc_law, od_law, .func (PySem.W.fnOf "law" "law" (defArgs s_law) (defBody s_law) (defScope s_law) .none kV_law dc_law pm_law an_law cd_law ct_law), sl_law⟩)
    (d_law : PySem.W.codeIn K cd_law "law" = true)
    (k_law : PySem.W.keepIn K (.ref f_law) = true)
    : ∃ fd : FuncData, (∀ (s : Shared) (u : Value), BindsTo s fd ⟨[u], []⟩ [("_law_script", u)]) ∧ ∀ base : Heap, K.In base → base.Ns mainGlobals mg → FnOk prg w K mg base (L2.CX prg w) 12 fa fd ["_law_script"] (spLaw K) := by
  have e := hfa.symm.trans (PySem.W.mg_of X G a_law)
  have e2 : f_law = fa := by cases e; rfl
  subst e2
  let T : Txt K mg := {
    n_abs := PySem.W.mg_none_of X G z_abs
    n_bool := PySem.W.mg_none_of X G z_bool
    n_bytes := PySem.W.mg_none_of X G z_bytes
    n_enumerate := PySem.W.mg_none_of X G z_enumerate
    n_int := PySem.W.mg_none_of X G z_int
    n_isinstance := PySem.W.mg_none_of X G z_isinstance
    n_iter := PySem.W.mg_none_of X G z_iter
    n_len := PySem.W.mg_none_of X G z_len
    n_list := PySem.W.mg_none_of X G z_list
    n_max := PySem.W.mg_none_of X G z_max
    n_min := PySem.W.mg_none_of X G z_min
    n_property := PySem.W.mg_none_of X G z_property
    n_range := PySem.W.mg_none_of X G z_range
    n_str := PySem.W.mg_none_of X G z_str
    n_tuple := PySem.W.mg_none_of X G z_tuple
    n_zip := PySem.W.mg_none_of X G z_zip
    k_SIGNS := ⟨_, PySem.W.mg_of X G a_SIGNS⟩
    k_GREATEST_HEIGHT := ⟨_, PySem.W.mg_of X G a_GREATEST_HEIGHT⟩
    k_MOST_SIGNS := ⟨_, PySem.W.mg_of X G a_MOST_SIGNS⟩
    c_BadSign := c_BadSign
    m_BadSign := PySem.W.mg_of X G a_BadSign
    o_BadSign := ⟨⟨nm_BadSign, q_BadSign, N_BadSign, bs_BadSign, bm_BadSign, sn_BadSign, sub_BadSign, ab_BadSign, col_BadSign, dd_BadSign, k0_BadSign, k1_BadSign, k2_BadSign, k3_BadSign, k5_BadSign, l_BadSign, ve_BadSign⟩, sa_BadSign, eb_BadSign, ty_BadSign, kc_BadSign⟩
    x_BadSign := ⟨⟨ga_BadSign, gg_BadSign, eb_BadSign, hd_BadSign⟩, nf_BadSign⟩
    f_BadSign_init := f_BadSign_init
    fd_BadSign_init := _
    i_BadSign := i_BadSign_init
    t_BadSign := t_BadSign_init
    F_BadSign_init := ⟨⟨_, _, _, _, _, _, _, _, _, _, _, _, _, _, _, _, _, _, _, _, rfl, l_BadSign_init, d_BadSign_init, e_BadSign_init, v_BadSign_init, g_BadSign_init, h_BadSign_init⟩, ops, PySem.W.mg_none_of X G z_super, si_BadSign, ev_BadSign, mc_BadSign, nf_BadSign, by rfl⟩
    b_BadSign_init := .all fun us hl => match us, hl with | [_, _], _ => rfl
    em_BadSign_BadSign := em_BadSign_BadSign
    c_NoPlace := c_NoPlace
    m_NoPlace := PySem.W.mg_of X G a_NoPlace
    o_NoPlace := ⟨⟨nm_NoPlace, q_NoPlace, N_NoPlace, bs_NoPlace, bm_NoPlace, sn_NoPlace, sub_NoPlace, ab_NoPlace, col_NoPlace, dd_NoPlace, k0_NoPlace, k1_NoPlace, k2_NoPlace, k3_NoPlace, k5_NoPlace, l_NoPlace, ve_NoPlace⟩, sa_NoPlace, eb_NoPlace, ty_NoPlace, kc_NoPlace⟩
    x_NoPlace := ⟨⟨ga_NoPlace, gg_NoPlace, eb_NoPlace, hd_NoPlace⟩, nf_NoPlace⟩
    f_NoPlace_init := f_NoPlace_init
    fd_NoPlace_init := _
    i_NoPlace := i_NoPlace_init
    t_NoPlace := t_NoPlace_init
    F_NoPlace_init := ⟨⟨_, _, _, _, _, _, _, _, _, _, _, _, _, _, _, _, _, _, _, _, rfl, l_NoPlace_init, d_NoPlace_init, e_NoPlace_init, v_NoPlace_init, g_NoPlace_init, h_NoPlace_init⟩, ops, PySem.W.mg_none_of X G z_super, si_NoPlace, ev_NoPlace, mc_NoPlace, nf_NoPlace, by rfl⟩
    b_NoPlace_init := .all fun us hl => match us, hl with | [_, _], _ => rfl
    em_NoPlace_BadSign := em_NoPlace_BadSign
    em_NoPlace_NoPlace := em_NoPlace_NoPlace
    c_Mismatch := c_Mismatch
    m_Mismatch := PySem.W.mg_of X G a_Mismatch
    o_Mismatch := ⟨⟨nm_Mismatch, q_Mismatch, N_Mismatch, bs_Mismatch, bm_Mismatch, sn_Mismatch, sub_Mismatch, ab_Mismatch, col_Mismatch, dd_Mismatch, k0_Mismatch, k1_Mismatch, k2_Mismatch, k3_Mismatch, k5_Mismatch, l_Mismatch, ve_Mismatch⟩, sa_Mismatch, eb_Mismatch, ty_Mismatch, kc_Mismatch⟩
    x_Mismatch := ⟨⟨ga_Mismatch, gg_Mismatch, eb_Mismatch, hd_Mismatch⟩, nf_Mismatch⟩
    f_Mismatch_init := f_Mismatch_init
    fd_Mismatch_init := _
    i_Mismatch := i_Mismatch_init
    t_Mismatch := t_Mismatch_init
    F_Mismatch_init := ⟨⟨_, _, _, _, _, _, _, _, _, _, _, _, _, _, _, _, _, _, _, _, rfl, l_Mismatch_init, d_Mismatch_init, e_Mismatch_init, v_Mismatch_init, g_Mismatch_init, h_Mismatch_init⟩, ops, PySem.W.mg_none_of X G z_super, si_Mismatch, ev_Mismatch, mc_Mismatch, nf_Mismatch, by rfl⟩
    b_Mismatch_init := .all fun us hl => match us, hl with | [_, _], _ => rfl
    em_Mismatch_BadSign := em_Mismatch_BadSign
    em_Mismatch_NoPlace := em_Mismatch_NoPlace
    em_Mismatch_Mismatch := em_Mismatch_Mismatch
    c_BadHeight := c_BadHeight
    m_BadHeight := PySem.W.mg_of X G a_BadHeight
    o_BadHeight := ⟨⟨nm_BadHeight, q_BadHeight, N_BadHeight, bs_BadHeight, bm_BadHeight, sn_BadHeight, sub_BadHeight, ab_BadHeight, col_BadHeight, dd_BadHeight, k0_BadHeight, k1_BadHeight, k2_BadHeight, k3_BadHeight, k5_BadHeight, l_BadHeight, ve_BadHeight⟩, sa_BadHeight, eb_BadHeight, ty_BadHeight, kc_BadHeight⟩
    x_BadHeight := ⟨⟨ga_BadHeight, gg_BadHeight, eb_BadHeight, hd_BadHeight⟩, nf_BadHeight⟩
    f_BadHeight_init := f_BadHeight_init
    fd_BadHeight_init := _
    i_BadHeight := i_BadHeight_init
    t_BadHeight := t_BadHeight_init
    F_BadHeight_init := ⟨⟨_, _, _, _, _, _, _, _, _, _, _, _, _, _, _, _, _, _, _, _, rfl, l_BadHeight_init, d_BadHeight_init, e_BadHeight_init, v_BadHeight_init, g_BadHeight_init, h_BadHeight_init⟩, ops, PySem.W.mg_none_of X G z_super, si_BadHeight, ev_BadHeight, mc_BadHeight, nf_BadHeight, by rfl⟩
    b_BadHeight_init := .all fun us hl => match us, hl with | [_, _], _ => rfl
    em_BadHeight_BadSign := em_BadHeight_BadSign
    em_BadHeight_NoPlace := em_BadHeight_NoPlace
    em_BadHeight_Mismatch := em_BadHeight_Mismatch
    em_BadHeight_BadHeight := em_BadHeight_BadHeight
    c_Beyond := c_Beyond
    m_Beyond := PySem.W.mg_of X G a_Beyond
    o_Beyond := ⟨⟨nm_Beyond, q_Beyond, N_Beyond, bs_Beyond, bm_Beyond, sn_Beyond, sub_Beyond, ab_Beyond, col_Beyond, dd_Beyond, k0_Beyond, k1_Beyond, k2_Beyond, k3_Beyond, k5_Beyond, l_Beyond, ve_Beyond⟩, sa_Beyond, eb_Beyond, ty_Beyond, kc_Beyond⟩
    x_Beyond := ⟨⟨ga_Beyond, gg_Beyond, eb_Beyond, hd_Beyond⟩, nf_Beyond⟩
    f_Beyond_init := f_Beyond_init
    fd_Beyond_init := _
    i_Beyond := i_Beyond_init
    t_Beyond := t_Beyond_init
    F_Beyond_init := ⟨⟨_, _, _, _, _, _, _, _, _, _, _, _, _, _, _, _, _, _, _, _, rfl, l_Beyond_init, d_Beyond_init, e_Beyond_init, v_Beyond_init, g_Beyond_init, h_Beyond_init⟩, ops, PySem.W.mg_none_of X G z_super, si_Beyond, ev_Beyond, mc_Beyond, nf_Beyond, by rfl⟩
    b_Beyond_init := .all fun us hl => match us, hl with | [_, _], _ => rfl
    em_Beyond_BadSign := em_Beyond_BadSign
    em_Beyond_NoPlace := em_Beyond_NoPlace
    em_Beyond_Mismatch := em_Beyond_Mismatch
    em_Beyond_BadHeight := em_Beyond_BadHeight
    em_Beyond_Beyond := em_Beyond_Beyond
    c_Uneven := c_Uneven
    m_Uneven := PySem.W.mg_of X G a_Uneven
    o_Uneven := o_Uneven
    kp_Uneven := kp_Uneven
    r_Uneven := r_Uneven
    t_Uneven := t_Uneven
    em_Uneven_BadSign := em_Uneven_BadSign
    em_Uneven_NoPlace := em_Uneven_NoPlace
    em_Uneven_Mismatch := em_Uneven_Mismatch
    em_Uneven_BadHeight := em_Uneven_BadHeight
    em_Uneven_Beyond := em_Uneven_Beyond
    em_Uneven_Uneven := em_Uneven_Uneven
    c_BadRule := c_BadRule
    m_BadRule := PySem.W.mg_of X G a_BadRule
    o_BadRule := o_BadRule
    kp_BadRule := kp_BadRule
    r_BadRule := r_BadRule
    t_BadRule := t_BadRule
    em_BadRule_BadSign := em_BadRule_BadSign
    em_BadRule_NoPlace := em_BadRule_NoPlace
    em_BadRule_Mismatch := em_BadRule_Mismatch
    em_BadRule_BadHeight := em_BadRule_BadHeight
    em_BadRule_Beyond := em_BadRule_Beyond
    em_BadRule_Uneven := em_BadRule_Uneven
    em_BadRule_BadRule := em_BadRule_BadRule
    em_BadSign_NoPlace := em_BadSign_NoPlace
    em_BadSign_Mismatch := em_BadSign_Mismatch
    em_BadSign_BadHeight := em_BadSign_BadHeight
    em_BadSign_Beyond := em_BadSign_Beyond
    em_BadSign_Uneven := em_BadSign_Uneven
    em_BadSign_BadRule := em_BadSign_BadRule
    em_NoPlace_Mismatch := em_NoPlace_Mismatch
    em_NoPlace_BadHeight := em_NoPlace_BadHeight
    em_NoPlace_Beyond := em_NoPlace_Beyond
    em_NoPlace_Uneven := em_NoPlace_Uneven
    em_NoPlace_BadRule := em_NoPlace_BadRule
    em_Mismatch_BadHeight := em_Mismatch_BadHeight
    em_Mismatch_Beyond := em_Mismatch_Beyond
    em_Mismatch_Uneven := em_Mismatch_Uneven
    em_Mismatch_BadRule := em_Mismatch_BadRule
    em_BadHeight_Beyond := em_BadHeight_Beyond
    em_BadHeight_Uneven := em_BadHeight_Uneven
    em_BadHeight_BadRule := em_BadHeight_BadRule
    em_Beyond_Uneven := em_Beyond_Uneven
    em_Beyond_BadRule := em_Beyond_BadRule
    em_Uneven_BadRule := em_Uneven_BadRule
    c_Row := c_Row
    m_Row := PySem.W.mg_of X G a_Row
    cl_Row := ⟨pg_Row, hd_Row, po_Row, sa_Row⟩
    mk_Row := mk_Row
    kp_Row := kc_Row
    is_Row := ⟨⟨pg_Row, hd_Row, po_Row, sa_Row⟩, j0_Row, j1_Row, j2_Row, j3_Row, j4_Row⟩
    sf_Row := sf_Row
    nsq_Row := nsq_Row
    na_Row__pairs := na_Row__pairs
    c_Rule := c_Rule
    m_Rule := PySem.W.mg_of X G a_Rule
    cl_Rule := ⟨pg_Rule, hd_Rule, po_Rule, sa_Rule⟩
    mk_Rule := mk_Rule
    kp_Rule := kc_Rule
    is_Rule := ⟨⟨pg_Rule, hd_Rule, po_Rule, sa_Rule⟩, j0_Rule, j1_Rule, j2_Rule, j3_Rule, j4_Rule⟩
    sf_Rule := sf_Rule
    na_Rule_left := na_Rule_left
    na_Rule_right := na_Rule_right
    f_check_text := f_check_text
    fd_check_text := PySem.W.fnOf "check_text" "check_text" (defArgs s_check_text) (defBody s_check_text) (defScope s_check_text) .none kV_check_text dc_check_text pm_check_text an_check_text cd_check_text ct_check_text
    F_check_text := fun_mk (st := s_check_text) l_check_text d_check_text k_check_text
    b_check_text := (fun_mk (st := s_check_text) l_check_text d_check_text k_check_text).binds (ps := P_check_text) fun _ _ _ _ _ _ us hl => match us, hl with | [_], _ => rfl
    m_check_text := PySem.W.mg_of X G a_check_text
    f_decoded := f_decoded
    fd_decoded := PySem.W.fnOf "decoded" "decoded" (defArgs s_decoded) (defBody s_decoded) (defScope s_decoded) .none kV_decoded dc_decoded pm_decoded an_decoded cd_decoded ct_decoded
    F_decoded := fun_mk (st := s_decoded) l_decoded d_decoded k_decoded
    b_decoded := (fun_mk (st := s_decoded) l_decoded d_decoded k_decoded).binds (ps := P_decoded) fun _ _ _ _ _ _ us hl => match us, hl with | [_], _ => rfl
    m_decoded := PySem.W.mg_of X G a_decoded
    f_is_sign := f_is_sign
    fd_is_sign := PySem.W.fnOf "is_sign" "is_sign" (defArgs s_is_sign) (defBody s_is_sign) (defScope s_is_sign) .none kV_is_sign dc_is_sign pm_is_sign an_is_sign cd_is_sign ct_is_sign
    F_is_sign := fun_mk (st := s_is_sign) l_is_sign d_is_sign k_is_sign
    b_is_sign := (fun_mk (st := s_is_sign) l_is_sign d_is_sign k_is_sign).binds (ps := P_is_sign) fun _ _ _ _ _ _ us hl => match us, hl with | [_], _ => rfl
    m_is_sign := PySem.W.mg_of X G a_is_sign
    f_check_height := f_check_height
    fd_check_height := PySem.W.fnOf "check_height" "check_height" (defArgs s_check_height) (defBody s_check_height) (defScope s_check_height) .none kV_check_height dc_check_height pm_check_height an_check_height cd_check_height ct_check_height
    F_check_height := fun_mk (st := s_check_height) l_check_height d_check_height k_check_height
    b_check_height := (fun_mk (st := s_check_height) l_check_height d_check_height k_check_height).binds (ps := P_check_height) fun _ _ _ _ _ _ us hl => match us, hl with | [_, _], _ => rfl
    m_check_height := PySem.W.mg_of X G a_check_height
    f_Row_init := f_Row_init
    fd_Row_init := PySem.W.fnOf "__init__" "Row.__init__" (defArgs s_Row_init) (defBody s_Row_init) (defScope s_Row_init) (.ref dT_Row_init) kV_Row_init dc_Row_init pm_Row_init an_Row_init cd_Row_init ct_Row_init
    D_Row_init := ⟨⟨_, _, _, _, _, _, _, _, _, _, rfl, l_Row_init, d_Row_init, .inr ⟨by simp, dT_Row_init, _, _, un_Row_init, rfl, u_Row_init, rfl, .cons ⟨_, rfl⟩ (.cons rfl (.nil))⟩, .inl rfl⟩, k_Row_init⟩
    kp_Row_init := k_Row_init
    M_Row_init := ⟨a_Row_init, i_Row_init, k_Row_init⟩
    f_Row_signs := f_Row_signs
    fd_Row_signs := PySem.W.fnOf "signs" "Row.signs" (defArgs s_Row_signs) (defBody s_Row_signs) (defScope s_Row_signs) .none kV_Row_signs dc_Row_signs pm_Row_signs an_Row_signs cd_Row_signs ct_Row_signs
    F_Row_signs := fun_mk (st := s_Row_signs) l_Row_signs d_Row_signs k_Row_signs
    b_Row_signs := (fun_mk (st := s_Row_signs) l_Row_signs d_Row_signs k_Row_signs).binds (ps := P_Row_signs) fun _ _ _ _ _ _ us hl => match us, hl with | [_], _ => rfl
    p_Row_signs := p_Row_signs
    M_Row_signs := ⟨a_Row_signs, pg_Row_signs, pt_Row_signs, ⟨_, pr_Row_signs⟩⟩
    f_Row_heights := f_Row_heights
    fd_Row_heights := PySem.W.fnOf "heights" "Row.heights" (defArgs s_Row_heights) (defBody s_Row_heights) (defScope s_Row_heights) .none kV_Row_heights dc_Row_heights pm_Row_heights an_Row_heights cd_Row_heights ct_Row_heights
    F_Row_heights := fun_mk (st := s_Row_heights) l_Row_heights d_Row_heights k_Row_heights
    b_Row_heights := (fun_mk (st := s_Row_heights) l_Row_heights d_Row_heights k_Row_heights).binds (ps := P_Row_heights) fun _ _ _ _ _ _ us hl => match us, hl with | [_], _ => rfl
    p_Row_heights := p_Row_heights
    M_Row_heights := ⟨a_Row_heights, pg_Row_heights, pt_Row_heights, ⟨_, pr_Row_heights⟩⟩
    f_Row_len := f_Row_len
    fd_Row_len := PySem.W.fnOf "__len__" "Row.__len__" (defArgs s_Row_len) (defBody s_Row_len) (defScope s_Row_len) .none kV_Row_len dc_Row_len pm_Row_len an_Row_len cd_Row_len ct_Row_len
    F_Row_len := fun_mk (st := s_Row_len) l_Row_len d_Row_len k_Row_len
    b_Row_len := (fun_mk (st := s_Row_len) l_Row_len d_Row_len k_Row_len).binds (ps := P_Row_len) fun _ _ _ _ _ _ us hl => match us, hl with | [_], _ => rfl
    M_Row_len := ⟨a_Row_len, i_Row_len, k_Row_len⟩
    f_Row_iter := f_Row_iter
    fd_Row_iter := PySem.W.fnOf "__iter__" "Row.__iter__" (defArgs s_Row_iter) (defBody s_Row_iter) (defScope s_Row_iter) .none kV_Row_iter dc_Row_iter pm_Row_iter an_Row_iter cd_Row_iter ct_Row_iter
    F_Row_iter := fun_mk (st := s_Row_iter) l_Row_iter d_Row_iter k_Row_iter
    b_Row_iter := (fun_mk (st := s_Row_iter) l_Row_iter d_Row_iter k_Row_iter).binds (ps := P_Row_iter) fun _ _ _ _ _ _ us hl => match us, hl with | [_], _ => rfl
    M_Row_iter := ⟨a_Row_iter, i_Row_iter, k_Row_iter⟩
    f_Row_abs := f_Row_abs
    fd_Row_abs := PySem.W.fnOf "__abs__" "Row.__abs__" (defArgs s_Row_abs) (defBody s_Row_abs) (defScope s_Row_abs) .none kV_Row_abs dc_Row_abs pm_Row_abs an_Row_abs cd_Row_abs ct_Row_abs
    F_Row_abs := fun_mk (st := s_Row_abs) l_Row_abs d_Row_abs k_Row_abs
    b_Row_abs := (fun_mk (st := s_Row_abs) l_Row_abs d_Row_abs k_Row_abs).binds (ps := P_Row_abs) fun _ _ _ _ _ _ us hl => match us, hl with | [_], _ => rfl
    M_Row_abs := ⟨a_Row_abs, i_Row_abs, k_Row_abs⟩
    f_Row_check_place := f_Row_check_place
    fd_Row_check_place := PySem.W.fnOf "_check_place" "Row._check_place" (defArgs s_Row_check_place) (defBody s_Row_check_place) (defScope s_Row_check_place) .none kV_Row_check_place dc_Row_check_place pm_Row_check_place an_Row_check_place cd_Row_check_place ct_Row_check_place
    F_Row_check_place := fun_mk (st := s_Row_check_place) l_Row_check_place d_Row_check_place k_Row_check_place
    b_Row_check_place := (fun_mk (st := s_Row_check_place) l_Row_check_place d_Row_check_place k_Row_check_place).binds (ps := P_Row_check_place) fun _ _ _ _ _ _ us hl => match us, hl with | [_, _], _ => rfl
    M_Row_check_place := ⟨a_Row_check_place, i_Row_check_place, k_Row_check_place⟩
    f__row_of := f__row_of
    fd__row_of := PySem.W.fnOf "_row_of" "_row_of" (defArgs s__row_of) (defBody s__row_of) (defScope s__row_of) .none kV__row_of dc__row_of pm__row_of an__row_of cd__row_of ct__row_of
    F__row_of := fun_mk (st := s__row_of) l__row_of d__row_of k__row_of
    b__row_of := (fun_mk (st := s__row_of) l__row_of d__row_of k__row_of).binds (ps := P__row_of) fun _ _ _ _ _ _ us hl => match us, hl with | [_], _ => rfl
    m__row_of := PySem.W.mg_of X G a__row_of
    f_Row_getitem := f_Row_getitem
    fd_Row_getitem := PySem.W.fnOf "__getitem__" "Row.__getitem__" (defArgs s_Row_getitem) (defBody s_Row_getitem) (defScope s_Row_getitem) .none kV_Row_getitem dc_Row_getitem pm_Row_getitem an_Row_getitem cd_Row_getitem ct_Row_getitem
    F_Row_getitem := fun_mk (st := s_Row_getitem) l_Row_getitem d_Row_getitem k_Row_getitem
    b_Row_getitem := (fun_mk (st := s_Row_getitem) l_Row_getitem d_Row_getitem k_Row_getitem).binds (ps := P_Row_getitem) fun _ _ _ _ _ _ us hl => match us, hl with | [_, _], _ => rfl
    M_Row_getitem := ⟨a_Row_getitem, i_Row_getitem, k_Row_getitem⟩
    f_Row_setitem := f_Row_setitem
    fd_Row_setitem := PySem.W.fnOf "__setitem__" "Row.__setitem__" (defArgs s_Row_setitem) (defBody s_Row_setitem) (defScope s_Row_setitem) .none kV_Row_setitem dc_Row_setitem pm_Row_setitem an_Row_setitem cd_Row_setitem ct_Row_setitem
    F_Row_setitem := fun_mk (st := s_Row_setitem) l_Row_setitem d_Row_setitem k_Row_setitem
    b_Row_setitem := (fun_mk (st := s_Row_setitem) l_Row_setitem d_Row_setitem k_Row_setitem).binds (ps := P_Row_setitem) fun _ _ _ _ _ _ us hl => match us, hl with | [_, _, _], _ => rfl
    M_Row_setitem := ⟨a_Row_setitem, i_Row_setitem, k_Row_setitem⟩
    f_Rule_init := f_Rule_init
    fd_Rule_init := PySem.W.fnOf "__init__" "Rule.__init__" (defArgs s_Rule_init) (defBody s_Rule_init) (defScope s_Rule_init) (.ref dT_Rule_init) kV_Rule_init dc_Rule_init pm_Rule_init an_Rule_init cd_Rule_init ct_Rule_init
    D_Rule_init := ⟨⟨_, _, _, _, _, _, _, _, _, _, rfl, l_Rule_init, d_Rule_init, .inr ⟨by simp, dT_Rule_init, _, _, un_Rule_init, rfl, u_Rule_init, rfl, .cons ⟨_, rfl⟩ (.nil)⟩, .inl rfl⟩, k_Rule_init⟩
    kp_Rule_init := k_Rule_init
    M_Rule_init := ⟨a_Rule_init, i_Rule_init, k_Rule_init⟩
    f_Rule_str := f_Rule_str
    fd_Rule_str := PySem.W.fnOf "__str__" "Rule.__str__" (defArgs s_Rule_str) (defBody s_Rule_str) (defScope s_Rule_str) .none kV_Rule_str dc_Rule_str pm_Rule_str an_Rule_str cd_Rule_str ct_Rule_str
    F_Rule_str := fun_mk (st := s_Rule_str) l_Rule_str d_Rule_str k_Rule_str
    b_Rule_str := (fun_mk (st := s_Rule_str) l_Rule_str d_Rule_str k_Rule_str).binds (ps := P_Rule_str) fun _ _ _ _ _ _ us hl => match us, hl with | [_], _ => rfl
    M_Rule_str := ⟨a_Rule_str, i_Rule_str, k_Rule_str⟩
    f__fits := f__fits
    fd__fits := PySem.W.fnOf "_fits" "_fits" (defArgs s__fits) (defBody s__fits) (defScope s__fits) .none kV__fits dc__fits pm__fits an__fits cd__fits ct__fits
    F__fits := fun_mk (st := s__fits) l__fits d__fits k__fits
    b__fits := (fun_mk (st := s__fits) l__fits d__fits k__fits).binds (ps := P__fits) fun _ _ _ _ _ _ us hl => match us, hl with | [_, _, _], _ => rfl
    m__fits := PySem.W.mg_of X G a__fits
    f__stepped := f__stepped
    fd__stepped := PySem.W.fnOf "_stepped" "_stepped" (defArgs s__stepped) (defBody s__stepped) (defScope s__stepped) .none kV__stepped dc__stepped pm__stepped an__stepped cd__stepped ct__stepped
    F__stepped := fun_mk (st := s__stepped) l__stepped d__stepped k__stepped
    b__stepped := (fun_mk (st := s__stepped) l__stepped d__stepped k__stepped).binds (ps := P__stepped) fun _ _ _ _ _ _ us hl => match us, hl with | [_, _, _, _], _ => rfl
    m__stepped := PySem.W.mg_of X G a__stepped
    f_Rule_call := f_Rule_call
    fd_Rule_call := PySem.W.fnOf "__call__" "Rule.__call__" (defArgs s_Rule_call) (defBody s_Rule_call) (defScope s_Rule_call) (.ref dT_Rule_call) kV_Rule_call dc_Rule_call pm_Rule_call an_Rule_call cd_Rule_call ct_Rule_call
    D_Rule_call := ⟨⟨_, _, _, _, _, _, _, _, _, _, rfl, l_Rule_call, d_Rule_call, .inr ⟨by simp, dT_Rule_call, _, _, un_Rule_call, rfl, u_Rule_call, rfl, .cons ⟨_, rfl⟩ (.nil)⟩, .inl rfl⟩, k_Rule_call⟩
    kp_Rule_call := k_Rule_call
    M_Rule_call := ⟨a_Rule_call, i_Rule_call, k_Rule_call⟩
    f__law_pool := f__law_pool
    fd__law_pool := PySem.W.fnOf "_law_pool" "_law_pool" (defArgs s__law_pool) (defBody s__law_pool) (defScope s__law_pool) .none kV__law_pool dc__law_pool pm__law_pool an__law_pool cd__law_pool ct__law_pool
    F__law_pool := fun_mk (st := s__law_pool) l__law_pool d__law_pool k__law_pool
    b__law_pool := (fun_mk (st := s__law_pool) l__law_pool d__law_pool k__law_pool).binds (ps := P__law_pool) fun _ _ _ _ _ _ us hl => match us, hl with | [_], _ => rfl
    m__law_pool := PySem.W.mg_of X G a__law_pool
    f__law_pick := f__law_pick
    fd__law_pick := PySem.W.fnOf "_law_pick" "_law_pick" (defArgs s__law_pick) (defBody s__law_pick) (defScope s__law_pick) .none kV__law_pick dc__law_pick pm__law_pick an__law_pick cd__law_pick ct__law_pick
    F__law_pick := fun_mk (st := s__law_pick) l__law_pick d__law_pick k__law_pick
    b__law_pick := (fun_mk (st := s__law_pick) l__law_pick d__law_pick k__law_pick).binds (ps := P__law_pick) fun _ _ _ _ _ _ us hl => match us, hl with | [_, _], _ => rfl
    m__law_pick := PySem.W.mg_of X G a__law_pick
    f__law_alphabet := f__law_alphabet
    fd__law_alphabet := PySem.W.fnOf "_law_alphabet" "_law_alphabet" (defArgs s__law_alphabet) (defBody s__law_alphabet) (defScope s__law_alphabet) .none kV__law_alphabet dc__law_alphabet pm__law_alphabet an__law_alphabet cd__law_alphabet ct__law_alphabet
    F__law_alphabet := fun_mk (st := s__law_alphabet) l__law_alphabet d__law_alphabet k__law_alphabet
    b__law_alphabet := (fun_mk (st := s__law_alphabet) l__law_alphabet d__law_alphabet k__law_alphabet).binds (ps := P__law_alphabet) fun _ _ _ _ _ _ us hl => match us, hl with | [_, _], _ => rfl
    m__law_alphabet := PySem.W.mg_of X G a__law_alphabet
    f__law_word_of := f__law_word_of
    fd__law_word_of := PySem.W.fnOf "_law_word_of" "_law_word_of" (defArgs s__law_word_of) (defBody s__law_word_of) (defScope s__law_word_of) .none kV__law_word_of dc__law_word_of pm__law_word_of an__law_word_of cd__law_word_of ct__law_word_of
    F__law_word_of := fun_mk (st := s__law_word_of) l__law_word_of d__law_word_of k__law_word_of
    b__law_word_of := (fun_mk (st := s__law_word_of) l__law_word_of d__law_word_of k__law_word_of).binds (ps := P__law_word_of) fun _ _ _ _ _ _ us hl => match us, hl with | [_, _, _, _], _ => rfl
    m__law_word_of := PySem.W.mg_of X G a__law_word_of
    f__law_is_int := f__law_is_int
    fd__law_is_int := PySem.W.fnOf "_law_is_int" "_law_is_int" (defArgs s__law_is_int) (defBody s__law_is_int) (defScope s__law_is_int) .none kV__law_is_int dc__law_is_int pm__law_is_int an__law_is_int cd__law_is_int ct__law_is_int
    F__law_is_int := fun_mk (st := s__law_is_int) l__law_is_int d__law_is_int k__law_is_int
    b__law_is_int := (fun_mk (st := s__law_is_int) l__law_is_int d__law_is_int k__law_is_int).binds (ps := P__law_is_int) fun _ _ _ _ _ _ us hl => match us, hl with | [_], _ => rfl
    m__law_is_int := PySem.W.mg_of X G a__law_is_int
    f__law_take := f__law_take
    fd__law_take := PySem.W.fnOf "_law_take" "_law_take" (defArgs s__law_take) (defBody s__law_take) (defScope s__law_take) .none kV__law_take dc__law_take pm__law_take an__law_take cd__law_take ct__law_take
    F__law_take := fun_mk (st := s__law_take) l__law_take d__law_take k__law_take
    b__law_take := (fun_mk (st := s__law_take) l__law_take d__law_take k__law_take).binds (ps := P__law_take) fun _ _ _ _ _ _ us hl => match us, hl with | [_, _, _], _ => rfl
    m__law_take := PySem.W.mg_of X G a__law_take
    f__law_shows := f__law_shows
    fd__law_shows := PySem.W.fnOf "_law_shows" "_law_shows" (defArgs s__law_shows) (defBody s__law_shows) (defScope s__law_shows) .none kV__law_shows dc__law_shows pm__law_shows an__law_shows cd__law_shows ct__law_shows
    F__law_shows := fun_mk (st := s__law_shows) l__law_shows d__law_shows k__law_shows
    b__law_shows := (fun_mk (st := s__law_shows) l__law_shows d__law_shows k__law_shows).binds (ps := P__law_shows) fun _ _ _ _ _ _ us hl => match us, hl with | [_, _], _ => rfl
    m__law_shows := PySem.W.mg_of X G a__law_shows
    f__law_as_row := f__law_as_row
    fd__law_as_row := PySem.W.fnOf "_law_as_row" "_law_as_row" (defArgs s__law_as_row) (defBody s__law_as_row) (defScope s__law_as_row) .none kV__law_as_row dc__law_as_row pm__law_as_row an__law_as_row cd__law_as_row ct__law_as_row
    F__law_as_row := fun_mk (st := s__law_as_row) l__law_as_row d__law_as_row k__law_as_row
    b__law_as_row := (fun_mk (st := s__law_as_row) l__law_as_row d__law_as_row k__law_as_row).binds (ps := P__law_as_row) fun _ _ _ _ _ _ us hl => match us, hl with | [_], _ => rfl
    m__law_as_row := PySem.W.mg_of X G a__law_as_row
    f__law_due_of := f__law_due_of
    fd__law_due_of := PySem.W.fnOf "_law_due_of" "_law_due_of" (defArgs s__law_due_of) (defBody s__law_due_of) (defScope s__law_due_of) .none kV__law_due_of dc__law_due_of pm__law_due_of an__law_due_of cd__law_due_of ct__law_due_of
    F__law_due_of := fun_mk (st := s__law_due_of) l__law_due_of d__law_due_of k__law_due_of
    b__law_due_of := (fun_mk (st := s__law_due_of) l__law_due_of d__law_due_of k__law_due_of).binds (ps := P__law_due_of) fun _ _ _ _ _ _ us hl => match us, hl with | [_, _, _], _ => rfl
    m__law_due_of := PySem.W.mg_of X G a__law_due_of
    f__law_done := f__law_done
    fd__law_done := PySem.W.fnOf "_law_done" "_law_done" (defArgs s__law_done) (defBody s__law_done) (defScope s__law_done) .none kV__law_done dc__law_done pm__law_done an__law_done cd__law_done ct__law_done
    F__law_done := fun_mk (st := s__law_done) l__law_done d__law_done k__law_done
    b__law_done := (fun_mk (st := s__law_done) l__law_done d__law_done k__law_done).binds (ps := P__law_done) fun _ _ _ _ _ _ us hl => match us, hl with | [_, _, _], _ => rfl
    m__law_done := PySem.W.mg_of X G a__law_done
    f__law_done_named := f__law_done_named
    fd__law_done_named := PySem.W.fnOf "_law_done_named" "_law_done_named" (defArgs s__law_done_named) (defBody s__law_done_named) (defScope s__law_done_named) .none kV__law_done_named dc__law_done_named pm__law_done_named an__law_done_named cd__law_done_named ct__law_done_named
    F__law_done_named := fun_mk (st := s__law_done_named) l__law_done_named d__law_done_named k__law_done_named
    b__law_done_named := (fun_mk (st := s__law_done_named) l__law_done_named d__law_done_named k__law_done_named).binds (ps := P__law_done_named) fun _ _ _ _ _ _ us hl => match us, hl with | [_, _, _], _ => rfl
    m__law_done_named := PySem.W.mg_of X G a__law_done_named
    f__law_done_first := f__law_done_first
    fd__law_done_first := PySem.W.fnOf "_law_done_first" "_law_done_first" (defArgs s__law_done_first) (defBody s__law_done_first) (defScope s__law_done_first) .none kV__law_done_first dc__law_done_first pm__law_done_first an__law_done_first cd__law_done_first ct__law_done_first
    F__law_done_first := fun_mk (st := s__law_done_first) l__law_done_first d__law_done_first k__law_done_first
    b__law_done_first := (fun_mk (st := s__law_done_first) l__law_done_first d__law_done_first k__law_done_first).binds (ps := P__law_done_first) fun _ _ _ _ _ _ us hl => match us, hl with | [_, _], _ => rfl
    m__law_done_first := PySem.W.mg_of X G a__law_done_first
    f__law_same := f__law_same
    fd__law_same := PySem.W.fnOf "_law_same" "_law_same" (defArgs s__law_same) (defBody s__law_same) (defScope s__law_same) .none kV__law_same dc__law_same pm__law_same an__law_same cd__law_same ct__law_same
    F__law_same := fun_mk (st := s__law_same) l__law_same d__law_same k__law_same
    b__law_same := (fun_mk (st := s__law_same) l__law_same d__law_same k__law_same).binds (ps := P__law_same) fun _ _ _ _ _ _ us hl => match us, hl with | [_, _], _ => rfl
    m__law_same := PySem.W.mg_of X G a__law_same
    f_law := f_law
    fd_law := PySem.W.fnOf "law" "law" (defArgs s_law) (defBody s_law) (defScope s_law) .none kV_law dc_law pm_law an_law cd_law ct_law
    F_law := fun_mk (st := s_law) l_law d_law k_law
    b_law := (fun_mk (st := s_law) l_law d_law k_law).binds (ps := P_law) fun _ _ _ _ _ _ us hl => match us, hl with | [_], _ => rfl
    m_law := PySem.W.mg_of X G a_law
  }
  exact ⟨T.fd_law, fun s v => .of_eq rfl, fun base _ _ => ok_law T⟩
theorem walk {l : PySem.W.OpenLaw} {q : Program} {loose : List Str} {XP : (Str → Option Value) → Heap → Prop} {YP : World → Heap → Prop} {d : DefRec} {K : Params → PySem.W.Frag} (hn : l.most = some 63) (hdf : d.params.defaults = []) (hp : l.prog = prg)
    (hY : ∀ (w : World) (h : Heap), YP w h → (K w.params).In h)
    (F : ∀ (w : World) (mg : Str → Option Value) (fa : Addr) (h : Heap), (K w.params).In h → h.Ns mainGlobals mg → mg d.name = some (.ref fa) →
      ∃ fd : FuncData, (∀ (s : Shared) (u : Value), BindsTo s fd ⟨[u], []⟩ [("_law_script", u)]) ∧ ∀ base : Heap, (K w.params).In base → base.Ns mainGlobals mg → FnOk prg w (K w.params) mg base (L2.CX prg w) 12 fa fd ["_law_script"] (spLaw (K w.params))) :
    PySem.W.WalkO q loose XP YP l.row.toRowW d [] (fun f vs => PySem.call f vs) :=
  L2.walk_of (n := 63) (k := 12) (x := "_law_script") (CX := fun w => L2.CX prg w) (sp := fun w => spLaw (K w.params)) hn (by decide) hdf ⟨rfl, by decide, by decide⟩ hY (by rw [hp]; exact F) (fun _ _ a ns hl _ hS => ⟨a, ns, rfl, hS, hl, fun _ => rfl⟩) fun w H s e s' z => no_cx w H s e s' z
end Rz
open PySem PySem.W PyProof.Rows in
set_option maxRecDepth 100000 in
set_option maxHeartbeats 0 in
theorem PySem.Challenge.cw_risensigns_k07_rule_step_holds : PySem.Challenge.rw_risensigns_k07_rule_step.Holds := by
  w_on; o_law; k_head; (case hw => w_witness2)
  k_fill
  refine Rz.walk (l := PySem.Challenge.rw_risensigns_k07_rule_step) rfl rfl rfl (fun w h Y => PySem.W.kIn_of Y) ?F
  case F =>
    intro w mg fa h KX G hmg
    refine' Rz.all_mk KX G hmg ?z_abs ?z_bool ?z_bytes ?z_enumerate ?z_int ?z_isinstance ?z_iter ?z_len ?z_list ?z_max ?z_min ?z_property ?z_range ?z_str ?z_tuple ?z_zip ?a_SIGNS ?a_GREATEST_HEIGHT ?a_MOST_SIGNS ?a_BadSign ?l_BadSign ?ve_BadSign ?sa_BadSign ?eb_BadSign ?ev_BadSign ?ty_BadSign ?kc_BadSign ?ga_BadSign ?gg_BadSign ?nf_BadSign ?hd_BadSign ?mc_BadSign ?si_BadSign ?i_BadSign_init ?t_BadSign_init ?l_BadSign_init ?d_BadSign_init ?e_BadSign_init ?v_BadSign_init ?g_BadSign_init ?h_BadSign_init ?em_BadSign_BadSign ?a_NoPlace ?l_NoPlace ?ve_NoPlace ?sa_NoPlace ?eb_NoPlace ?ev_NoPlace ?ty_NoPlace ?kc_NoPlace ?ga_NoPlace ?gg_NoPlace ?nf_NoPlace ?hd_NoPlace ?mc_NoPlace ?si_NoPlace ?i_NoPlace_init ?t_NoPlace_init ?l_NoPlace_init ?d_NoPlace_init ?e_NoPlace_init ?v_NoPlace_init ?g_NoPlace_init ?h_NoPlace_init ?em_NoPlace_BadSign ?em_NoPlace_NoPlace ?a_Mismatch ?l_Mismatch ?ve_Mismatch ?sa_Mismatch ?eb_Mismatch ?ev_Mismatch ?ty_Mismatch ?kc_Mismatch ?ga_Mismatch ?gg_Mismatch ?nf_Mismatch ?hd_Mismatch ?mc_Mismatch ?si_Mismatch ?i_Mismatch_init ?t_Mismatch_init ?l_Mismatch_init ?d_Mismatch_init ?e_Mismatch_init ?v_Mismatch_init ?g_Mismatch_init ?h_Mismatch_init ?em_Mismatch_BadSign ?em_Mismatch_NoPlace ?em_Mismatch_Mismatch ?a_BadHeight ?l_BadHeight ?ve_BadHeight ?sa_BadHeight ?eb_BadHeight ?ev_BadHeight ?ty_BadHeight ?kc_BadHeight ?ga_BadHeight ?gg_BadHeight ?nf_BadHeight ?hd_BadHeight ?mc_BadHeight ?si_BadHeight ?i_BadHeight_init ?t_BadHeight_init ?l_BadHeight_init ?d_BadHeight_init ?e_BadHeight_init ?v_BadHeight_init ?g_BadHeight_init ?h_BadHeight_init ?em_BadHeight_BadSign ?em_BadHeight_NoPlace ?em_BadHeight_Mismatch ?em_BadHeight_BadHeight ?a_Beyond ?l_Beyond ?ve_Beyond ?sa_Beyond ?eb_Beyond ?ev_Beyond ?ty_Beyond ?kc_Beyond ?ga_Beyond ?gg_Beyond ?nf_Beyond ?hd_Beyond ?mc_Beyond ?si_Beyond ?i_Beyond_init ?t_Beyond_init ?l_Beyond_init ?d_Beyond_init ?e_Beyond_init ?v_Beyond_init ?g_Beyond_init ?h_Beyond_init ?em_Beyond_BadSign ?em_Beyond_NoPlace ?em_Beyond_Mismatch ?em_Beyond_BadHeight ?em_Beyond_Beyond ?a_Uneven ?o_Uneven ?kp_Uneven ?r_Uneven ?t_Uneven ?em_Uneven_BadSign ?em_Uneven_NoPlace ?em_Uneven_Mismatch ?em_Uneven_BadHeight ?em_Uneven_Beyond ?em_Uneven_Uneven ?a_BadRule ?o_BadRule ?kp_BadRule ?r_BadRule ?t_BadRule ?em_BadRule_BadSign ?em_BadRule_NoPlace ?em_BadRule_Mismatch ?em_BadRule_BadHeight ?em_BadRule_Beyond ?em_BadRule_Uneven ?em_BadRule_BadRule ?em_BadSign_NoPlace ?em_BadSign_Mismatch ?em_BadSign_BadHeight ?em_BadSign_Beyond ?em_BadSign_Uneven ?em_BadSign_BadRule ?em_NoPlace_Mismatch ?em_NoPlace_BadHeight ?em_NoPlace_Beyond ?em_NoPlace_Uneven ?em_NoPlace_BadRule ?em_Mismatch_BadHeight ?em_Mismatch_Beyond ?em_Mismatch_Uneven ?em_Mismatch_BadRule ?em_BadHeight_Beyond ?em_BadHeight_Uneven ?em_BadHeight_BadRule ?em_Beyond_Uneven ?em_Beyond_BadRule ?em_Uneven_BadRule ?z_super ?ops ?a_Row ?pg_Row ?hd_Row ?po_Row ?sa_Row ?mk_Row ?kc_Row ?j0_Row ?j1_Row ?j2_Row ?j3_Row ?j4_Row ?sf_Row ?nsq_Row ?na_Row__pairs ?a_Rule ?pg_Rule ?hd_Rule ?po_Rule ?sa_Rule ?mk_Rule ?kc_Rule ?j0_Rule ?j1_Rule ?j2_Rule ?j3_Rule ?j4_Rule ?sf_Rule ?na_Rule_left ?na_Rule_right ?a_check_text ?l_check_text ?d_check_text ?k_check_text ?a_decoded ?l_decoded ?d_decoded ?k_decoded ?a_is_sign ?l_is_sign ?d_is_sign ?k_is_sign ?a_check_height ?l_check_height ?d_check_height ?k_check_height ?a_Row_init ?i_Row_init ?l_Row_init ?d_Row_init ?k_Row_init ?u_Row_init ?a_Row_signs ?pg_Row_signs ?pt_Row_signs ?pr_Row_signs ?l_Row_signs ?d_Row_signs ?k_Row_signs ?a_Row_heights ?pg_Row_heights ?pt_Row_heights ?pr_Row_heights ?l_Row_heights ?d_Row_heights ?k_Row_heights ?a_Row_len ?i_Row_len ?l_Row_len ?d_Row_len ?k_Row_len ?a_Row_iter ?i_Row_iter ?l_Row_iter ?d_Row_iter ?k_Row_iter ?a_Row_abs ?i_Row_abs ?l_Row_abs ?d_Row_abs ?k_Row_abs ?a_Row_check_place ?i_Row_check_place ?l_Row_check_place ?d_Row_check_place ?k_Row_check_place ?a__row_of ?l__row_of ?d__row_of ?k__row_of ?a_Row_getitem ?i_Row_getitem ?l_Row_getitem ?d_Row_getitem ?k_Row_getitem ?a_Row_setitem ?i_Row_setitem ?l_Row_setitem ?d_Row_setitem ?k_Row_setitem ?a_Rule_init ?i_Rule_init ?l_Rule_init ?d_Rule_init ?k_Rule_init ?u_Rule_init ?a_Rule_str ?i_Rule_str ?l_Rule_str ?d_Rule_str ?k_Rule_str ?a__fits ?l__fits ?d__fits ?k__fits ?a__stepped ?l__stepped ?d__stepped ?k__stepped ?a_Rule_call ?i_Rule_call ?l_Rule_call ?d_Rule_call ?k_Rule_call ?u_Rule_call ?a__law_pool ?l__law_pool ?d__law_pool ?k__law_pool ?a__law_pick ?l__law_pick ?d__law_pick ?k__law_pick ?a__law_alphabet ?l__law_alphabet ?d__law_alphabet ?k__law_alphabet ?a__law_word_of ?l__law_word_of ?d__law_word_of ?k__law_word_of ?a__law_is_int ?l__law_is_int ?d__law_is_int ?k__law_is_int ?a__law_take ?l__law_take ?d__law_take ?k__law_take ?a__law_shows ?l__law_shows ?d__law_shows ?k__law_shows ?a__law_as_row ?l__law_as_row ?d__law_as_row ?k__law_as_row ?a__law_due_of ?l__law_due_of ?d__law_due_of ?k__law_due_of ?a__law_done ?l__law_done ?d__law_done ?k__law_done ?a__law_done_named ?l__law_done_named ?d__law_done_named ?k__law_done_named ?a__law_done_first ?l__law_done_first ?d__law_done_first ?k__law_done_first ?a__law_same ?l__law_same ?d__law_same ?k__law_same ?a_law ?l_law ?d_law ?k_law
    (case z_abs => k_is)
    (case z_bool => k_is)
    (case z_bytes => k_is)
    (case z_enumerate => k_is)
    (case z_int => k_is)
    (case z_isinstance => k_is)
    (case z_iter => k_is)
    (case z_len => k_is)
    (case z_list => k_is)
    (case z_max => k_is)
    (case z_min => k_is)
    (case z_property => k_is)
    (case z_range => k_is)
    (case z_str => k_is)
    (case z_tuple => k_is)
    (case z_zip => k_is)
    (case a_SIGNS => k_is)
    (case a_GREATEST_HEIGHT => k_is)
    (case a_MOST_SIGNS => k_is)
    (case a_BadSign => k_is)
    (case l_BadSign => k_is)
    (case ve_BadSign => first | rfl | kernel_rfl | decide +kernel)
    (case sa_BadSign => k_is)
    (case eb_BadSign => k_is)
    (case ev_BadSign => k_is)
    (case ty_BadSign => k_is)
    (case kc_BadSign => k_is)
    (case ga_BadSign => k_is)
    (case gg_BadSign => k_is)
    (case nf_BadSign => k_is)
    (case hd_BadSign => k_is)
    (case mc_BadSign => k_is)
    (case si_BadSign => first | rfl | kernel_rfl | decide +kernel)
    (case i_BadSign_init => k_is)
    (case t_BadSign_init => k_is)
    (case l_BadSign_init => k_is)
    (case d_BadSign_init => k_is)
    (case e_BadSign_init => k_is)
    (case v_BadSign_init => rfl)
    (case g_BadSign_init => first | rfl | kernel_rfl | decide +kernel)
    (case h_BadSign_init => k_is)
    (case em_BadSign_BadSign => first | rfl | kernel_rfl | decide +kernel)
    (case a_NoPlace => k_is)
    (case l_NoPlace => k_is)
    (case ve_NoPlace => first | rfl | kernel_rfl | decide +kernel)
    (case sa_NoPlace => k_is)
    (case eb_NoPlace => k_is)
    (case ev_NoPlace => k_is)
    (case ty_NoPlace => k_is)
    (case kc_NoPlace => k_is)
    (case ga_NoPlace => k_is)
    (case gg_NoPlace => k_is)
    (case nf_NoPlace => k_is)
    (case hd_NoPlace => k_is)
    (case mc_NoPlace => k_is)
    (case si_NoPlace => first | rfl | kernel_rfl | decide +kernel)
    (case i_NoPlace_init => k_is)
    (case t_NoPlace_init => k_is)
    (case l_NoPlace_init => k_is)
    (case d_NoPlace_init => k_is)
    (case e_NoPlace_init => k_is)
    (case v_NoPlace_init => rfl)
    (case g_NoPlace_init => first | rfl | kernel_rfl | decide +kernel)
    (case h_NoPlace_init => k_is)
    (case em_NoPlace_BadSign => first | rfl | kernel_rfl | decide +kernel)
    (case em_NoPlace_NoPlace => first | rfl | kernel_rfl | decide +kernel)
    (case a_Mismatch => k_is)
    (case l_Mismatch => k_is)
    (case ve_Mismatch => first | rfl | kernel_rfl | decide +kernel)
    (case sa_Mismatch => k_is)
    (case eb_Mismatch => k_is)
    (case ev_Mismatch => k_is)
    (case ty_Mismatch => k_is)
    (case kc_Mismatch => k_is)
    (case ga_Mismatch => k_is)
    (case gg_Mismatch => k_is)
    (case nf_Mismatch => k_is)
    (case hd_Mismatch => k_is)
    (case mc_Mismatch => k_is)
    (case si_Mismatch => first | rfl | kernel_rfl | decide +kernel)
    (case i_Mismatch_init => k_is)
    (case t_Mismatch_init => k_is)
    (case l_Mismatch_init => k_is)
    (case d_Mismatch_init => k_is)
    (case e_Mismatch_init => k_is)
    (case v_Mismatch_init => rfl)
    (case g_Mismatch_init => first | rfl | kernel_rfl | decide +kernel)
    (case h_Mismatch_init => k_is)
    (case em_Mismatch_BadSign => first | rfl | kernel_rfl | decide +kernel)
    (case em_Mismatch_NoPlace => first | rfl | kernel_rfl | decide +kernel)
    (case em_Mismatch_Mismatch => first | rfl | kernel_rfl | decide +kernel)
    (case a_BadHeight => k_is)
    (case l_BadHeight => k_is)
    (case ve_BadHeight => first | rfl | kernel_rfl | decide +kernel)
    (case sa_BadHeight => k_is)
    (case eb_BadHeight => k_is)
    (case ev_BadHeight => k_is)
    (case ty_BadHeight => k_is)
    (case kc_BadHeight => k_is)
    (case ga_BadHeight => k_is)
    (case gg_BadHeight => k_is)
    (case nf_BadHeight => k_is)
    (case hd_BadHeight => k_is)
    (case mc_BadHeight => k_is)
    (case si_BadHeight => first | rfl | kernel_rfl | decide +kernel)
    (case i_BadHeight_init => k_is)
    (case t_BadHeight_init => k_is)
    (case l_BadHeight_init => k_is)
    (case d_BadHeight_init => k_is)
    (case e_BadHeight_init => k_is)
    (case v_BadHeight_init => rfl)
    (case g_BadHeight_init => first | rfl | kernel_rfl | decide +kernel)
    (case h_BadHeight_init => k_is)
    (case em_BadHeight_BadSign => first | rfl | kernel_rfl | decide +kernel)
    (case em_BadHeight_NoPlace => first | rfl | kernel_rfl | decide +kernel)
    (case em_BadHeight_Mismatch => first | rfl | kernel_rfl | decide +kernel)
    (case em_BadHeight_BadHeight => first | rfl | kernel_rfl | decide +kernel)
    (case a_Beyond => k_is)
    (case l_Beyond => k_is)
    (case ve_Beyond => first | rfl | kernel_rfl | decide +kernel)
    (case sa_Beyond => k_is)
    (case eb_Beyond => k_is)
    (case ev_Beyond => k_is)
    (case ty_Beyond => k_is)
    (case kc_Beyond => k_is)
    (case ga_Beyond => k_is)
    (case gg_Beyond => k_is)
    (case nf_Beyond => k_is)
    (case hd_Beyond => k_is)
    (case mc_Beyond => k_is)
    (case si_Beyond => first | rfl | kernel_rfl | decide +kernel)
    (case i_Beyond_init => k_is)
    (case t_Beyond_init => k_is)
    (case l_Beyond_init => k_is)
    (case d_Beyond_init => k_is)
    (case e_Beyond_init => k_is)
    (case v_Beyond_init => rfl)
    (case g_Beyond_init => first | rfl | kernel_rfl | decide +kernel)
    (case h_Beyond_init => k_is)
    (case em_Beyond_BadSign => first | rfl | kernel_rfl | decide +kernel)
    (case em_Beyond_NoPlace => first | rfl | kernel_rfl | decide +kernel)
    (case em_Beyond_Mismatch => first | rfl | kernel_rfl | decide +kernel)
    (case em_Beyond_BadHeight => first | rfl | kernel_rfl | decide +kernel)
    (case em_Beyond_Beyond => first | rfl | kernel_rfl | decide +kernel)
    (case a_Uneven => k_is)
    (case o_Uneven => k_exc)
    (case kp_Uneven => k_is)
    (case r_Uneven => k_is)
    (case t_Uneven => k_is)
    (case em_Uneven_BadSign => first | rfl | kernel_rfl | decide +kernel)
    (case em_Uneven_NoPlace => first | rfl | kernel_rfl | decide +kernel)
    (case em_Uneven_Mismatch => first | rfl | kernel_rfl | decide +kernel)
    (case em_Uneven_BadHeight => first | rfl | kernel_rfl | decide +kernel)
    (case em_Uneven_Beyond => first | rfl | kernel_rfl | decide +kernel)
    (case em_Uneven_Uneven => first | rfl | kernel_rfl | decide +kernel)
    (case a_BadRule => k_is)
    (case o_BadRule => k_exc)
    (case kp_BadRule => k_is)
    (case r_BadRule => k_is)
    (case t_BadRule => k_is)
    (case em_BadRule_BadSign => first | rfl | kernel_rfl | decide +kernel)
    (case em_BadRule_NoPlace => first | rfl | kernel_rfl | decide +kernel)
    (case em_BadRule_Mismatch => first | rfl | kernel_rfl | decide +kernel)
    (case em_BadRule_BadHeight => first | rfl | kernel_rfl | decide +kernel)
    (case em_BadRule_Beyond => first | rfl | kernel_rfl | decide +kernel)
    (case em_BadRule_Uneven => first | rfl | kernel_rfl | decide +kernel)
    (case em_BadRule_BadRule => first | rfl | kernel_rfl | decide +kernel)
    (case em_BadSign_NoPlace => first | rfl | kernel_rfl | decide +kernel)
    (case em_BadSign_Mismatch => first | rfl | kernel_rfl | decide +kernel)
    (case em_BadSign_BadHeight => first | rfl | kernel_rfl | decide +kernel)
    (case em_BadSign_Beyond => first | rfl | kernel_rfl | decide +kernel)
    (case em_BadSign_Uneven => first | rfl | kernel_rfl | decide +kernel)
    (case em_BadSign_BadRule => first | rfl | kernel_rfl | decide +kernel)
    (case em_NoPlace_Mismatch => first | rfl | kernel_rfl | decide +kernel)
    (case em_NoPlace_BadHeight => first | rfl | kernel_rfl | decide +kernel)
    (case em_NoPlace_Beyond => first | rfl | kernel_rfl | decide +kernel)
    (case em_NoPlace_Uneven => first | rfl | kernel_rfl | decide +kernel)
    (case em_NoPlace_BadRule => first | rfl | kernel_rfl | decide +kernel)
    (case em_Mismatch_BadHeight => first | rfl | kernel_rfl | decide +kernel)
    (case em_Mismatch_Beyond => first | rfl | kernel_rfl | decide +kernel)
    (case em_Mismatch_Uneven => first | rfl | kernel_rfl | decide +kernel)
    (case em_Mismatch_BadRule => first | rfl | kernel_rfl | decide +kernel)
    (case em_BadHeight_Beyond => first | rfl | kernel_rfl | decide +kernel)
    (case em_BadHeight_Uneven => first | rfl | kernel_rfl | decide +kernel)
    (case em_BadHeight_BadRule => first | rfl | kernel_rfl | decide +kernel)
    (case em_Beyond_Uneven => first | rfl | kernel_rfl | decide +kernel)
    (case em_Beyond_BadRule => first | rfl | kernel_rfl | decide +kernel)
    (case em_Uneven_BadRule => first | rfl | kernel_rfl | decide +kernel)
    (case z_super => k_is)
    (case ops => k_is)
    (case a_Row => k_is)
    (case pg_Row => k_is)
    (case hd_Row => k_is)
    (case po_Row => k_is)
    (case sa_Row => k_is)
    (case mk_Row => k_is)
    (case kc_Row => k_is)
    (case j0_Row => k_is)
    (case j1_Row => k_is)
    (case j2_Row => k_is)
    (case j3_Row => k_is)
    (case j4_Row => first | rfl | kernel_rfl | decide +kernel)
    (case sf_Row => k_is)
    (case nsq_Row => k_is)
    (case na_Row__pairs => k_is)
    (case a_Rule => k_is)
    (case pg_Rule => k_is)
    (case hd_Rule => k_is)
    (case po_Rule => k_is)
    (case sa_Rule => k_is)
    (case mk_Rule => k_is)
    (case kc_Rule => k_is)
    (case j0_Rule => k_is)
    (case j1_Rule => k_is)
    (case j2_Rule => k_is)
    (case j3_Rule => k_is)
    (case j4_Rule => first | rfl | kernel_rfl | decide +kernel)
    (case sf_Rule => k_is)
    (case na_Rule_left => k_is)
    (case na_Rule_right => k_is)
    (case a_check_text => k_is)
    (case l_check_text => k_is)
    (case d_check_text => k_is)
    (case k_check_text => k_is)
    (case a_decoded => k_is)
    (case l_decoded => k_is)
    (case d_decoded => k_is)
    (case k_decoded => k_is)
    (case a_is_sign => k_is)
    (case l_is_sign => k_is)
    (case d_is_sign => k_is)
    (case k_is_sign => k_is)
    (case a_check_height => k_is)
    (case l_check_height => k_is)
    (case d_check_height => k_is)
    (case k_check_height => k_is)
    (case a_Row_init => k_is)
    (case i_Row_init => k_is)
    (case l_Row_init => k_is)
    (case d_Row_init => k_is)
    (case k_Row_init => k_is)
    (case u_Row_init => k_is)
    (case a_Row_signs => k_is)
    (case pg_Row_signs => k_is)
    (case pt_Row_signs => k_is)
    (case pr_Row_signs => k_is)
    (case l_Row_signs => k_is)
    (case d_Row_signs => k_is)
    (case k_Row_signs => k_is)
    (case a_Row_heights => k_is)
    (case pg_Row_heights => k_is)
    (case pt_Row_heights => k_is)
    (case pr_Row_heights => k_is)
    (case l_Row_heights => k_is)
    (case d_Row_heights => k_is)
    (case k_Row_heights => k_is)
    (case a_Row_len => k_is)
    (case i_Row_len => k_is)
    (case l_Row_len => k_is)
    (case d_Row_len => k_is)
    (case k_Row_len => k_is)
    (case a_Row_iter => k_is)
    (case i_Row_iter => k_is)
    (case l_Row_iter => k_is)
    (case d_Row_iter => k_is)
    (case k_Row_iter => k_is)
    (case a_Row_abs => k_is)
    (case i_Row_abs => k_is)
    (case l_Row_abs => k_is)
    (case d_Row_abs => k_is)
    (case k_Row_abs => k_is)
    (case a_Row_check_place => k_is)
    (case i_Row_check_place => k_is)
    (case l_Row_check_place => k_is)
    (case d_Row_check_place => k_is)
    (case k_Row_check_place => k_is)
    (case a__row_of => k_is)
    (case l__row_of => k_is)
    (case d__row_of => k_is)
    (case k__row_of => k_is)
    (case a_Row_getitem => k_is)
    (case i_Row_getitem => k_is)
    (case l_Row_getitem => k_is)
    (case d_Row_getitem => k_is)
    (case k_Row_getitem => k_is)
    (case a_Row_setitem => k_is)
    (case i_Row_setitem => k_is)
    (case l_Row_setitem => k_is)
    (case d_Row_setitem => k_is)
    (case k_Row_setitem => k_is)
    (case a_Rule_init => k_is)
    (case i_Rule_init => k_is)
    (case l_Rule_init => k_is)
    (case d_Rule_init => k_is)
    (case k_Rule_init => k_is)
    (case u_Rule_init => k_is)
    (case a_Rule_str => k_is)
    (case i_Rule_str => k_is)
    (case l_Rule_str => k_is)
    (case d_Rule_str => k_is)
    (case k_Rule_str => k_is)
    (case a__fits => k_is)
    (case l__fits => k_is)
    (case d__fits => k_is)
    (case k__fits => k_is)
    (case a__stepped => k_is)
    (case l__stepped => k_is)
    (case d__stepped => k_is)
    (case k__stepped => k_is)
    (case a_Rule_call => k_is)
    (case i_Rule_call => k_is)
    (case l_Rule_call => k_is)
    (case d_Rule_call => k_is)
    (case k_Rule_call => k_is)
    (case u_Rule_call => k_is)
    (case a__law_pool => k_is)
    (case l__law_pool => k_is)
    (case d__law_pool => k_is)
    (case k__law_pool => k_is)
    (case a__law_pick => k_is)
    (case l__law_pick => k_is)
    (case d__law_pick => k_is)
    (case k__law_pick => k_is)
    (case a__law_alphabet => k_is)
    (case l__law_alphabet => k_is)
    (case d__law_alphabet => k_is)
    (case k__law_alphabet => k_is)
    (case a__law_word_of => k_is)
    (case l__law_word_of => k_is)
    (case d__law_word_of => k_is)
    (case k__law_word_of => k_is)
    (case a__law_is_int => k_is)
    (case l__law_is_int => k_is)
    (case d__law_is_int => k_is)
    (case k__law_is_int => k_is)
    (case a__law_take => k_is)
    (case l__law_take => k_is)
    (case d__law_take => k_is)
    (case k__law_take => k_is)
    (case a__law_shows => k_is)
    (case l__law_shows => k_is)
    (case d__law_shows => k_is)
    (case k__law_shows => k_is)
    (case a__law_as_row => k_is)
    (case l__law_as_row => k_is)
    (case d__law_as_row => k_is)
    (case k__law_as_row => k_is)
    (case a__law_due_of => k_is)
    (case l__law_due_of => k_is)
    (case d__law_due_of => k_is)
    (case k__law_due_of => k_is)
    (case a__law_done => k_is)
    (case l__law_done => k_is)
    (case d__law_done => k_is)
    (case k__law_done => k_is)
    (case a__law_done_named => k_is)
    (case l__law_done_named => k_is)
    (case d__law_done_named => k_is)
    (case k__law_done_named => k_is)
    (case a__law_done_first => k_is)
    (case l__law_done_first => k_is)
    (case d__law_done_first => k_is)
    (case k__law_done_first => k_is)
    (case a__law_same => k_is)
    (case l__law_same => k_is)
    (case d__law_same => k_is)
    (case k__law_same => k_is)
    (case a_law => k_is)
    (case l_law => k_is)
    (case d_law => k_is)
    (case k_law => k_is)
#print axioms PySem.Challenge.cw_risensigns_k07_rule_step_holds
