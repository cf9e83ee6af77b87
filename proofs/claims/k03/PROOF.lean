import PyProof.Rows.All
import Wide.All
import OpenK.AllK
import Wide.FinOn
import KE.KExcSuper
import KE.GoesEnum
import HandS.ForMost
import HandS.ForExc
import HandS.ExcInit
import HandS.ExcField
import HandS.TryMany
import HandS.Walk
import HandS.Defaults
import HandS.Property
import HandS.IsInst
import HandS.Codes
import HandS.FStr
import KE.KCallOwn
import KE.KDictZip
import KE.GoesZip
import KE.GoesMore
import HandS.ListItems
import HandS.Zip
import KE.KOpsOwn
import KE.KOwnIter
import HandS.IterNext
import HandS.SortKw
import PyProof.WalkInts
import HandS.More
import KE.DataCmp
import PyProof.InstNe
import PyProof.NeKinds
import PySem.Challenge.RW_risensigns_k03_rows_compared
set_option Elab.async false
set_option linter.all false
set_option maxRecDepth 100000
set_option maxHeartbeats 4000000
namespace Rz
open PySem PySem.Spec PyProof.Rows L2

theorem one_lookup {x k : Str} {a c : Addr} (h : List.lookup x [(k, a)] = some c) : c = a := by
  by_cases e : x = k
  · subst e
    simp [List.lookup] at h
    exact h.symm
  · have e2 : (x == k) = false := by simpa using e
    simp [List.lookup, e2] at h

/-- the context of an __init__ that knows its class -/
def cxS (P : Program) (w : World) (K : PySem.W.Frag) (mg : Str → Option Value) (base : Heap) (N : List Str) (qual : Str) (scope : Scope) (f : Addr) (cd : Value) (cc : Addr) (A : Around) (outer : List Env) (s : Shared) (H : Hp) : Cx where
  prog := P
  w := w
  K := K
  mg := mg
  base := base
  A := A.deeper (PySem.W.ksEnv qual scope s.heap.objs.size f cd cc)
  N := N
  s_0 := s
  H_0 := H
  env := PySem.W.ksEnv qual scope s.heap.objs.size f cd cc
  outer := outer
  stack := PySem.W.ksEnv qual scope s.heap.objs.size f cd cc :: outer
  ex := []
  calm := true
  fn := fun _ => false
  pn := []
  xe := fun _ _ => False

/-- what such an __init__ promises: the field is set -/
def spExI (C : Addr) (fld : Str) : Sp := fun vs H Q _ => ∃ (a : Addr) (n : Int), vs = [.ref a, .int n] ∧ n.natAbs.log2 < 1920 ∧ H a = some (exo a C none) ∧
  ∀ dx, H dx = none → dx ≠ a → Q .non (upd (upd H dx (exd dx [(fld, .int n)])) a (exo a C (some dx)))

/-- super().__init__(..) of an exception that has no dict yet -/
theorem call_mw {X : Cx} {pins : List (Addr × Obj)} {σ : L2.St} {H : Hp} {s : Shared} {a C u : Addr} {us : List Value} {Q : Value → Shared → Prop} {E : Value → Shared → Prop} {A : Around} (T : OexC X.K C) (I : Inv X pins σ H s) (e : H a = some (exo a C none)) (hl : us.length ≤ sizeLine)
    (hu : s.heap.get? u = some (PySem.W.kxs_mw "ValueError.__init__" a)) (h : ∀ s', Inv X pins σ H s' → Q .none s') : wpAny (model X.prog X.w) A (call (.ref u) us) Q E s := by
  obtain ⟨nm, q, N, bs, bm, sn, sub, ab, col, dd, k0, k1, k2, k3, k5, hC, hbm⟩ := T.cls
  obtain ⟨t1, ho⟩ := exo_at I.hok e
  have hC' := I.kIn _ _ hC
  have fin : ∀ (h' : Heap) (t2 : Addr), (∀ b o, b ≠ a → s.heap.get? b = some o → h'.get? b = some o) → h'.get? a = some ({ cls := .ref C, dict := none, data := .fields #[.ref t2, .none, .none, .none, .bool false, .none] } : Obj) → Inv X pins σ H { s with heap := h' } := fun h' t2 k hx => by
    have J := I.write (t' := s.toks) (x := a) (e := a) (o := exo a C none) (by rw [e]; exact True.intro) (.inl rfl) k ⟨_, hx⟩ (exo_ok hx)
    have eu : upd H a (exo a C none) = H := by
      funext b
      by_cases hb : b = a
      · rw [hb, upd_same, e]
      · rw [upd_ne hb]
    rw [eu] at J
    exact J
  obtain ⟨hp, g, d, t, os⟩ := s
  refine wpAny_call (codeAny_of_tree ?_)
  show wpAny _ A.in1 (callAny (.ref u) ⟨us, []⟩) _ _ _
  simp only [callAny]
  refine wpAny_bind (wpAny_load hu ?_)
  simp only [PySem.W.kxs_mw, show (Value.type "method-wrapper" == Value.type "method" || Value.type "method-wrapper" == Value.type "builtin_function_or_method" || Value.type "method-wrapper" == Value.type "method-wrapper") = true by decide, if_true]
  refine PySem.W.KFB.if_so (by decide) ?_
  refine wpAny_bind (PySem.W.check_bound_init F.excBase_ValueError.toExcCallFacts hC' ho rfl ?_)
  refine wpAny_bind (wpAny_pure (wpAny_pure ?_))
  refine ⟨plainId_quiet F.excBase_ValueError.init.plain _, codeAny_builtin F.excBase_ValueError.initEntry ?_⟩
  rw [Around.under_plainId F.excBase_ValueError.init.plain _]
  exact PySem.W.exc_init_tree (cls := .ref C) (t0 := t1) (dv := none) (c2 := .none) (c3 := .none) (b4 := .bool false) ho hl fun h' k hx _ => h _ (fin h' _ k hx)

section
variable {P : Program} {w : World} {K : PySem.W.Frag} {mg : Str → Option Value} {base : Heap}
theorem exsup_ok {CX : CXT} {k : Nat} {C f cc cda : Addr} {qual fld : Str} {params : Arguments} {body : List Stmt} {scope : Scope} {oc kV doc pm ct ccl cl : Value} {od an cdd cld : Option Addr} {osl ccs csl : Array (Option Value)} {vs5 : Array Value} {file : Str} {tf : Tok} {ar : Arg}
    {p0 p1 p2 p3 p4 q1 q2 q3 q4 : Pos} {e : Expr}
    (T : OexC K C)
    (lk : K.lookup f = some ⟨oc, od, .func (PySem.W.ksFn "__init__" qual params body scope .none kV doc pm an (.ref cda) ct cc), osl⟩) (hcd : PySem.W.codeIn K (.ref cda) qual = true)
    (hcode : K.lookup cda = some ⟨ccl, cdd, .fields vs5, ccs⟩) (hvs : vs5[2]? = some (.str file tf)) (hfile : ((P.main.file : Str) == file) = true)
    (hcell : K.lookup cc = some ⟨cl, cld, .cell (some (.ref C)), csl⟩)
    (hops : PySem.W.nsIn K cStatics "thirdparty.any" = some none) (hsuper : mg "super" = none)
    (hsin : PySem.W.ks_superIn K C C "__init__" = some (some (.builtin "ValueError.__init__")))
    (hB : PySem.W.subIn K (.ref C) (.type "ValueError") = some true) (hCC : PySem.W.mroIn K C (.ref C) = some true) (noN : PySem.W.findIn K (.ref C) fld = some none)
    (htop : (P.main.scope.names.lookup ("super" : Str)).isSome = false)
    (hbody : body = [.Expr (.Call (.Attribute (.Call (.Name "super" p0) [] [] p1) "__init__" p2) [e] [] p3) p4, .Assign [.Attribute (.Name "self" q1) fld q2] (.Name fld q3) q4])
    (hp : (params.posonlyargs ++ params.args).head? = some ar) (har : ar.arg = "self")
    (hks : scope.names.lookup ("super" : Str) = some .globalImplicit) (hkc : scope.names.lookup ("__class__" : Str) = some .free) (hka : scope.names.lookup ("self" : Str) = some .local) (hkf : scope.names.lookup fld = some .local)
    (hkind : scope.kind = .function) (hco : scope.isCoroutine = false) (hgen : scope.isGenerator = false) (hnc : ∀ x ∈ scope.names, x.2 ≠ .cell) (honly : ∀ x, scope.names.lookup x = some .free → x = "__class__") (hnd : fld ≠ "self")
    (hdb : (fld == ("__debug__" : Str)) = false) (hdc : (fld == ("__classdict__" : Str)) = false)
    (hmsg : ∀ X : Cx, X.N = [("self" : Str), fld] → X.env.scope = scope → ∃ t, PE X e t ∧ ∀ (σ : L2.St) (n : Int) (H : Hp) (Q : VK), σ[1]? = some (some (.int n)) → n.natAbs.log2 < 1920 → (∀ z : Str, Q (.str z) H) → t σ H Q)
    (hst : ∀ (L : Addr), starEach [e] (PySem.W.ksEnv qual scope L f (.ref cda) cc) = (false, eval e (PySem.W.ksEnv qual scope L f (.ref cda) cc)) :: starEach [] (PySem.W.ksEnv qual scope L f (.ref cda) cc))
    {pl : Sem Bool} (hms : ∀ (L : Addr), eval (.Call (.Attribute (.Call (.Name "super" p0) [] [] p1) "__init__" p2) [e] [] p3) (PySem.W.ksEnv qual scope L f (.ref cda) cc) = (do
      let ov ← attributeBase (.Call (.Name "super" p0) [] [] p1) "__init__" (PySem.W.ksEnv qual scope L f (.ref cda) cc) (eval (.Call (.Name "super" p0) [] [] p1) (PySem.W.ksEnv qual scope L f (.ref cda) cc))
      standAt p2.atName
      let (g, first) ← holding [ov] (getMethod ov "__init__" pl)
      callWith p3 g first (backTo p3 (starEach [e] (PySem.W.ksEnv qual scope L f (.ref cda) cc))) [])) :
    FnOk P w K mg base CX (k + 1) f (PySem.W.ksFn "__init__" qual params body scope .none kV doc pm an (.ref cda) ct cc) ["self", fld] (spExI C fld) := by
  refine ⟨fun vs H Q E h => ?_, fun A outer s H args us vs Q E hr e0 hb r hsp => ?_⟩
  · obtain ⟨a, n, rfl, _⟩ := h
    rfl
  obtain ⟨a, n, rfl, hn, ha, hk⟩ := hsp
  obtain ⟨u0, u1, rfl, r0, r1⟩ := vals2 r
  obtain rfl : u0 = Value.ref a := r0
  obtain ⟨tk, rfl⟩ := r1
  have KX : K.In s.heap := e0.mod.kin.keeps fun b o q => (e0.bs b o q).1
  have lim : s.heap.NoLimit := e0.mod.nolimit.keeps fun b o q => (e0.bs b o q).1
  refine PySem.ks_codeAny_call_defAt (body := body) (binds := (["self", fld] : List Str).zip [Value.ref a, Value.int n tk]) hr.depth (KX _ _ lk) rfl lim (PySem.W.codeRec_of KX hcd) rfl hb hnc (fun x hx => ?_) (fun h1 hns hk1 => ?_) hco hgen hkind
  · have hx' : x = (("self" : Str), Value.ref a) ∨ x = (fld, Value.int n tk) := by simpa using hx
    rcases hx' with rfl | rfl
    · exact hka
    · exact hkf
  have hne : (("self" : Str) == fld) = false := by simpa using Ne.symm hnd
  have nocell : ∀ x, scope.names.lookup x ≠ some .cell := fun x hx => hnc _ (PySem.mem_of_lookup hx) rfl
  have cells : ∀ {x c}, (cxS P w K mg base ["self", fld] qual scope f (.ref cda) cc A outer s H).env.cells.lookup x = some c → c = cc := fun h => one_lookup h
  have freeCC : H cc = none := (e0.bs _ _ (e0.mod.kin _ _ hcell)).2
  have I : Inv (cxS P w K mg base ["self", fld] qual scope f (.ref cda) cc A outer s H) [] [some (.ref a), some (.int n)] H { s with heap := h1, toks := s.toks + 2 } := by
    have noA : ∀ b : Addr, b ∉ (cxS P w K mg base ["self", fld] qual scope f (.ref cda) cc A outer s H).ex := fun b z => absurd (show b ∈ ([] : List Addr) from z) (by simp)
    refine ⟨⟨e0.mod, hkind, rfl, rfl, Nat.le_refl _, fun y z c h1 h2 => ?_, fun y hy => ?_, fun y c z _ => ?_, fun _ => hr.hd, Around.frames_deeper e0.frames, .inr ⟨rfl, rfl⟩, fun b z => absurd z (noA b), e0.bs, e0.bsz, fun b _ _ => noA b, fun b z => absurd z (noA b), e0.funs, e0.frf⟩,
      rfl, e0.bare, Un.kept hk1, ⟨_, hns, fun i y v h1 h2 h3 => ?_⟩, fun y c h => ?_, e0.hok.fresh (Nat.le_refl _), fun y c h => ?_, fun p hp => absurd (show p ∈ ([] : List (Addr × Obj)) from hp) (by simp), e0.hok.kept hk1, rfl⟩
    · have k1 : ∀ {y c}, List.lookup y [(("__class__" : Str), cc)] = some c → y = "__class__" := fun {y c} q => by
        by_cases z : y = "__class__"
        · exact z
        · have e2 : (y == ("__class__" : Str)) = false := by simpa using z
          simp [List.lookup, e2] at q
      rw [k1 h1, k1 h2]
    · rcases hy with hy | hy
      · exact absurd hy (nocell y)
      · have e1 := honly y hy
        subst e1
        exact ⟨cc, rfl⟩
    · exact Bool.noConfusion (show false = true from z)
    · refine match i, h1, h2 with
        | 0, h1, h2 => ?_
        | 1, h1, h2 => ?_
        | i + 2, h1, h2 => ?_
      · have e1 : ("self" : Str) = y := Option.some.inj h1
        have e2 : V.ref a = v := Option.some.inj (Option.some.inj h2)
        subst e1
        subst e2
        exact ⟨.ref a, rfl, .inl ⟨hka, by simp [List.lookup, hne]⟩⟩
      · have e1 : fld = y := Option.some.inj h1
        have e2 : V.int n = v := Option.some.inj (Option.some.inj h2)
        subst e1
        subst e2
        exact ⟨.int n tk, ⟨tk, rfl⟩, .inl ⟨hkf, by simp [List.lookup]⟩⟩
      · exact absurd h1 (by simp [cxS])
    · rw [cells h]
      exact ⟨_, _, hk1 _ _ (KX _ _ hcell), rfl⟩
    · rw [cells h]
      exact freeCC
  subst hbody
  have KX1 : K.In h1 := KX.keeps hk1
  obtain ⟨nm, q, N, bs, bm, sn, sub, ab, col, dd, k0, k1, k2, k3, k5, hC, hbm⟩ := id T.cls
  have hcl : PySem.W.clsIn K C = some { name := nm, bases := bs, mro := .ref C :: bm, ns := N, qualname := q, hasDict := true, slotNames := sn, subclasses := sub, abstract := ab, collection := col, hasDel := false } := by unfold PySem.W.clsIn; rw [hC] <;> rfl
  obtain ⟨t1, ho⟩ := exo_at I.hok ha
  obtain ⟨mb, b1, b2⟩ := I.mod.blt
  obtain ⟨hh, g, d, t0, os⟩ := s
  have hac : a ≠ C := fun z => by
    have z1 := KX1 _ _ hC
    rw [← z] at z1
    have z2 := z1.symm.trans ho
    cases z2
  refine PySem.ks_wpAt_execs_cons (PySem.ks_wpAt_Expr_any (PySem.ks_wpAt_MethodCall (pl := pl) ?_ (hms _)) I.quiet rfl)
  refine PySem.ks_wpAt_super_base hks hkc (by decide) rfl (KX1 _ _ lk) rfl hp rfl (KX1 _ _ hcode) rfl hvs hfile htop ?_
  refine PySem.W.ks_loadName_global hkind hks (Calls.loadGlobal_builtin (I.mod.glob.keeps I.bk) hsuper (b1.keeps I.bk) ((b2 "super" (by decide)).trans (by decide +kernel : bootBuiltins "super" = some (.type "super"))) ⟨rfl, ?_⟩)
  refine wpAny_loadName_free hkind hkc rfl ⟨_, KX1 _ _ hcell, rfl⟩ ?_
  rw [har]
  refine wpAny_loadName_local (v := .ref a) hkind hka hns (by simp [List.lookup, hne]) ?_
  refine PySem.ks_wpAny_isType_cls (KX1 _ _ hC) rfl ⟨rfl, ?_⟩
  refine PySem.ks_wpAny_call_super (KX1 _ _ hC) rfl ho rfl (fun c z => by cases z) (PySem.W.looks_mroIn KX1 hCC) (fun h2 e2 kk2 => ?_)
  have I2 := I.kept (t' := t0 + 2) kk2
  have KX2 := KX1.keeps kk2
  have ho2 := kk2 _ _ ho
  have hI : PySem.W.Looks (model P w) h2 (isInstance (.ref a) (.type "ValueError")) true :=
    (PySem.W.InstAt.type (M := model P w) (ox := { cls := .ref C, data := .fields #[.ref t1, .none, .none, .none, .bool false, .none] }) (od := none) ⟨ho2, rfl, rfl, trivial⟩).andThen (PySem.W.looks_subIn KX2 hB)
  have hsin2 : PySem.W.alongIn K "__init__" (((Value.ref C :: bm).dropWhile (· != .ref C)).drop 1) = some (some (.builtin "ValueError.__init__")) := by
    unfold PySem.W.ks_superIn at hsin
    rw [hcl] at hsin
    exact hsin
  refine PySem.W.kxs_getMethod PySem.W.kxs_ValueError e2 (PySem.W.looks_opaque KX2 hops) (l₀ := .ref C :: bm) ?_ rfl KX2 hsin2 hI hac (by decide) ?_
  · exact fun A Q E s k q => wpAny_bind ((PySem.W.looks_clsIn KX2 hcl) A _ E s k (wpAny_pure q))
  have kk3 : ∀ b o, h2.get? b = some o → (h2.push (PySem.W.kxs_mw "ValueError.__init__" a)).get? b = some o := fun b o q => Heap.get?_push_of_some _ q
  have I3 := I2.kept (t' := t0 + 2 + 1) kk3
  have hu : (h2.push (PySem.W.kxs_mw "ValueError.__init__" a)).get? h2.objs.size = some (PySem.W.kxs_mw "ValueError.__init__" a) := Heap.get?_push_at rfl rfl
  have I4 := I3.pins_of (pins' := [(h2.objs.size, PySem.W.kxs_mw "ValueError.__init__" a)]) (fun p hp => by
    obtain rfl : p = (h2.objs.size, PySem.W.kxs_mw "ValueError.__init__" a) := by simpa using hp
    refine ⟨hu, I2.hok.fresh (Nat.le_refl _), fun z => ?_, I2.nofs (Nat.le_refl _), fun v z => by cases z⟩
    have z1 := I2.lt
    rw [← z] at z1
    exact Nat.lt_irrefl _ z1)
  obtain ⟨te, pe, rd⟩ := hmsg (cxS P w K mg base ["self", fld] qual scope f (.ref cda) cc A outer ⟨hh, g, d, t0, os⟩ H) rfl rfl
  have pa := pa_cons pe pa_nil (hst _)
  have e3 : backTo p3 (starEach [e] (PySem.W.ksEnv qual scope hh.objs.size f (.ref cda) cc)) = (false, eval e (PySem.W.ksEnv qual scope hh.objs.size f (.ref cda) cc)) :: backTo p3 (starEach [] (PySem.W.ksEnv qual scope hh.objs.size f (.ref cda) cc)) := by rw [hst]; rfl
  refine PySem.W.kxs_callWith (i := "ValueError.__init__") (x := a) (by show (backTo p3 (starEach [e] (PySem.W.ksEnv qual scope hh.objs.size f (.ref cda) cc))).any (·.1) = false; rw [e3]; rfl) ?_
  show wpAny _ _ (evalArgs _ true (backTo p3 (starEach [e] (PySem.W.ksEnv qual scope hh.objs.size f (.ref cda) cc))) []) _ _ _
  rw [e3]
  refine Calls.evalArgs_plain ?_
  rw [← e3]
  refine wpAny_mono (pa.run p3 _ _ _ _ (fun vs H' => (∃ z, vs = [V.str z]) ∧ H' = H) I4 (rd _ n H _ rfl hn fun z => ⟨⟨z, rfl⟩, rfl⟩)) (fun us s5 hu5 => ?_) fun _ _ z => z.elim
  obtain ⟨vs, H', I5, r5, ⟨z, rfl⟩, rfl⟩ := hu5
  have hu6 := (I5.pin (h2.objs.size, PySem.W.kxs_mw "ValueError.__init__" a) (by simp [cxS])).1
  refine ⟨hu6, ?_⟩
  obtain ⟨uz, rfl, _⟩ := vals1 r5
  refine call_mw T I5 ha (by show 1 ≤ sizeLine; decide) hu6 fun s6 I6 => ?_
  show PySem.wpAt _ _ _ (execs _ _) _ _ _
  refine wpAt_of_wpAny ?_
  have J6 := I6.pins_of (pins' := []) (fun p hp => by cases hp)
  have ps : PSs (cxS P w K mg base ["self", fld] qual scope f (.ref cda) cc A outer ⟨hh, g, d, t0, os⟩ H') [.Assign [.Attribute (.Name "self" q1) fld q2] (.Name fld q3) q4] (tOst K fld (tVar 0) (tVar 1)) :=
    pss_one (ps_ost (pe_var rfl (.inl hka)) (pe_var rfl (.inl hkf) hdb hdc) rfl)
  refine wpAny_mono (ps.run [] s6 _ H' { nx := fun _ H2 => Q .non H2, rt := fun _ _ => False } J6 ⟨_, rfl, _, rfl, a, C, rfl, T, noN, .inl ⟨ha, hk⟩⟩) (fun fl s7 hs => ?_) fun _ _ z => z.elim
  cases fl with
  | next =>
    obtain ⟨σ7, H7, J, q7⟩ := hs
    exact ⟨.non, H7, J.os, J.bare, J.base, J.hok, rfl, q7⟩
  | ret u =>
    obtain ⟨_, _, _, _, _, q7⟩ := hs
    exact q7.elim
  | brk =>
    obtain ⟨_, _, _, q7⟩ := hs
    exact q7.elim
  | cont =>
    obtain ⟨_, _, _, q7⟩ := hs
    exact q7.elim
end
/-- what stands of such an __init__ behind the top -/
structure ExInit (P : Program) (K : PySem.W.Frag) (mg : Str → Option Value) (C f : Addr) (fd : FuncData) (fld : Str) (st : Stmt) : Prop where
  ex : ∃ (qual : Str) (oc kV doc pm ct ccl cl : Value) (od an cdd cld : Option Addr) (osl ccs csl : Array (Option Value)) (vs5 : Array Value) (file : Str) (tf : Tok) (cc cda : Addr),
    fd = PySem.W.ksFn "__init__" qual (defArgs st) (defBody st) (defScope st) .none kV doc pm an (.ref cda) ct cc ∧ K.lookup f = some ⟨oc, od, .func fd, osl⟩ ∧ PySem.W.codeIn K (.ref cda) qual = true ∧
    K.lookup cda = some ⟨ccl, cdd, .fields vs5, ccs⟩ ∧ vs5[2]? = some (.str file tf) ∧ ((P.main.file : Str) == file) = true ∧ K.lookup cc = some ⟨cl, cld, .cell (some (.ref C)), csl⟩
  ops : PySem.W.nsIn K cStatics "thirdparty.any" = some none
  nsup : mg "super" = none
  sin : PySem.W.ks_superIn K C C "__init__" = some (some (.builtin "ValueError.__init__"))
  sub : PySem.W.subIn K (.ref C) (.type "ValueError") = some true
  mro : PySem.W.mroIn K C (.ref C) = some true
  noN : PySem.W.findIn K (.ref C) fld = some none
  top : (P.main.scope.names.lookup ("super" : Str)).isSome = false
/-- .. and what its instances are read by -/
structure ExF (K : PySem.W.Frag) (C : Addr) (fld : Str) : Prop where
  xf : XfC K C
  noN : PySem.W.findIn K (.ref C) fld = some none
end Rz

namespace Rz
open PySem PySem.Spec PyProof.Rows L2
theorem str_int_len {n : Int} (h : n.natAbs.log2 < 1920) : (toString n : Str).length ≤ 1921 := PyProof.Rows.int_text_len_1921 h
theorem exinit_ok {P : Program} {w : World} {K : PySem.W.Frag} {mg : Str → Option Value} {base : Heap} {CX : CXT} {C f : Addr} {fd : FuncData} {fld : Str} {st : Stmt} {ar : Arg} {p0 p1 p2 p3 p4 q1 q2 q3 q4 : Pos} {e : Expr}
    (T : OexC K C) (I : ExInit P K mg C f fd fld st)
    (hbody : defBody st = [.Expr (.Call (.Attribute (.Call (.Name "super" p0) [] [] p1) "__init__" p2) [e] [] p3) p4, .Assign [.Attribute (.Name "self" q1) fld q2] (.Name fld q3) q4])
    (hp : ((defArgs st).posonlyargs ++ (defArgs st).args).head? = some ar) (har : ar.arg = "self")
    (hks : (defScope st).names.lookup ("super" : Str) = some .globalImplicit) (hkc : (defScope st).names.lookup ("__class__" : Str) = some .free) (hka : (defScope st).names.lookup ("self" : Str) = some .local) (hkf : (defScope st).names.lookup fld = some .local)
    (hkind : (defScope st).kind = .function) (hco : (defScope st).isCoroutine = false) (hgen : (defScope st).isGenerator = false)
    (hnc : ((defScope st).names.all fun x => decide (x.2 ≠ .cell)) = true) (hfr : ((defScope st).names.all fun x => decide (x.2 = .free → x.1 = "__class__")) = true) (hnd : fld ≠ "self")
    (hdb : (fld == ("__debug__" : Str)) = false) (hdc : (fld == ("__classdict__" : Str)) = false)
    (hmsg : ∀ X : Cx, X.N = [("self" : Str), fld] → X.env.scope = defScope st → ∃ t, PE X e t ∧ ∀ (σ : L2.St) (n : Int) (H : Hp) (Q : VK), σ[1]? = some (some (.int n)) → n.natAbs.log2 < 1920 → (∀ z : Str, Q (.str z) H) → t σ H Q)
    (hst : ∀ (qual : Str) (L cda cc : Addr), starEach [e] (PySem.W.ksEnv qual (defScope st) L f (.ref cda) cc) = (false, eval e (PySem.W.ksEnv qual (defScope st) L f (.ref cda) cc)) :: starEach [] (PySem.W.ksEnv qual (defScope st) L f (.ref cda) cc))
    {pl : Sem Bool} (hms : ∀ (qual : Str) (L cda cc : Addr), eval (.Call (.Attribute (.Call (.Name "super" p0) [] [] p1) "__init__" p2) [e] [] p3) (PySem.W.ksEnv qual (defScope st) L f (.ref cda) cc) = (do
      let ov ← attributeBase (.Call (.Name "super" p0) [] [] p1) "__init__" (PySem.W.ksEnv qual (defScope st) L f (.ref cda) cc) (eval (.Call (.Name "super" p0) [] [] p1) (PySem.W.ksEnv qual (defScope st) L f (.ref cda) cc))
      standAt p2.atName
      let (g, first) ← holding [ov] (getMethod ov "__init__" pl)
      callWith p3 g first (backTo p3 (starEach [e] (PySem.W.ksEnv qual (defScope st) L f (.ref cda) cc))) [])) :
    FnOk P w K mg base CX 1 f fd ["self", fld] (spExI C fld) := by
  obtain ⟨qual, oc, kV, doc, pm, ct, ccl, cl, od, an, cdd, cld, osl, ccs, csl, vs5, file, tf, cc, cda, rfl, lk, hcd, hcode, hvs, hfile, hcell⟩ := I.ex
  refine exsup_ok (k := 0) T lk hcd hcode hvs hfile hcell I.ops I.nsup I.sin I.sub I.mro I.noN I.top hbody hp har hks hkc hka hkf hkind hco hgen (fun x hx => ?_) (fun x hx => ?_) hnd hdb hdc hmsg (fun L => hst qual L cda cc) (fun L => hms qual L cda cc)
  · exact of_decide_eq_true (List.all_eq_true.mp hnc x hx)
  · exact of_decide_eq_true (List.all_eq_true.mp hfr _ (PySem.mem_of_lookup hx)) rfl
theorem msg_ok2 {sc : Scope} {fld c : Str} {p1 p2 p3 p4 : Pos} {j : Nat} (hv : sc.names.lookup fld = some .local) (hd : (fld == ("__debug__" : Str)) = false) (hdc : (fld == ("__classdict__" : Str)) = false) (hc : c.length ≤ 1000) (X : Cx) (hN : X.N = [("self" : Str), fld]) (hs : X.env.scope = sc) :
    ∃ t, PE X (.JoinedStr [.Constant (.str c) j p1, .FormattedValue (.Name fld p2) (-1) none p3] p4) t ∧ ∀ (σ : L2.St) (n : Int) (H : Hp) (Q : VK), σ[1]? = some (some (.int n)) → n.natAbs.log2 < 1920 → (∀ z : Str, Q (.str z) H) → t σ H Q := by
  refine ⟨_, pe_joined (.cons pe_str (.cons (pe_fmt (pe_var (i := 1) (by rw [hN]; rfl) (.inl (by rw [hs]; exact hv)) hd hdc)) .nil)), fun σ n H Q h1 hn hq => ?_⟩
  have l1 := str_int_len hn
  refine ⟨c, rfl, ?_, ?_⟩
  · rw [Str.length_append, sizeLine_eq]
    show 0 + c.length ≤ _
    omega
  · refine ⟨_, h1, .inr ⟨n, rfl, hn, _, rfl, ?_, hq _⟩⟩
    rw [Str.length_append, Str.length_append, sizeLine_eq]
    show 0 + c.length + _ ≤ _
    omega
theorem msg_ok3 {sc : Scope} {fld c c2 : Str} {p1 p2 p3 p4 p5 : Pos} {j j2 : Nat} (hv : sc.names.lookup fld = some .local) (hd : (fld == ("__debug__" : Str)) = false) (hdc : (fld == ("__classdict__" : Str)) = false) (hc : c.length ≤ 1000) (hc2 : c2.length ≤ 1000) (X : Cx) (hN : X.N = [("self" : Str), fld]) (hs : X.env.scope = sc) :
    ∃ t, PE X (.JoinedStr [.Constant (.str c) j p1, .FormattedValue (.Name fld p2) (-1) none p3, .Constant (.str c2) j2 p5] p4) t ∧ ∀ (σ : L2.St) (n : Int) (H : Hp) (Q : VK), σ[1]? = some (some (.int n)) → n.natAbs.log2 < 1920 → (∀ z : Str, Q (.str z) H) → t σ H Q := by
  refine ⟨_, pe_joined (.cons pe_str (.cons (pe_fmt (pe_var (i := 1) (by rw [hN]; rfl) (.inl (by rw [hs]; exact hv)) hd hdc)) (.cons pe_str .nil))), fun σ n H Q h1 hn hq => ?_⟩
  have l1 := str_int_len hn
  refine ⟨c, rfl, ?_, ?_⟩
  · rw [Str.length_append, sizeLine_eq]
    show 0 + c.length ≤ _
    omega
  · refine ⟨_, h1, .inr ⟨n, rfl, hn, _, rfl, ?_, c2, rfl, ?_, hq _⟩⟩
    · rw [Str.length_append, Str.length_append, sizeLine_eq]
      show 0 + c.length + _ ≤ _
      omega
    · rw [Str.length_append, Str.length_append, Str.length_append, sizeLine_eq]
      show 0 + c.length + _ + _ ≤ _
      omega
end Rz

namespace Rz
open PySem PySem.Spec PyProof.Rows L2

/-! ### enumerate(text) -/
def Ites (x : Str) : It :=
  ⟨fun i _ => i < x.cps.size, fun i H v H' => ∃ T c, v = .ref T ∧ H T = none ∧ H' = upd H T (.tup [.int (i : Nat), .str ⟨#[c]⟩]) ∧ x.cps[i]? = some c, fun i _ => i = x.cps.size⟩
theorem turn_enumS {P : Program} {w : World} {K : PySem.W.Frag} {elts : List Expr} {kk : Nat} {tpos : Pos} (e it : Addr) (x : Str) (t : Tok) :
    Turn P w K (.Tuple elts kk tpos) (Ites x) [e, it] e (fun i h => (∃ old, IsEnum h e it ((i : Nat) : Int) old) ∧ h.IsStrIter it (strIterType x) x t i ∧ e ≠ it) where
  mem := by simp
  obj := fun i h st b hb => by
    obtain ⟨⟨old, he⟩, ⟨o, ho, hc, hd⟩, _⟩ := st
    have z2 : b = e ∨ b = it := by simpa using hb
    rcases z2 with rfl | rfl
    · exact ⟨_, he, fun v q => nomatch q⟩
    · exact ⟨o, ho, fun v q => by rw [hd] at q; cases q⟩
  keep := fun i h h' st k => by
    obtain ⟨⟨old, he⟩, ⟨o, ho, r⟩, hne⟩ := st
    exact ⟨⟨old, k e (by simp) _ he⟩, ⟨o, k it (by simp) _ ho, r⟩, hne⟩
  item := by
    intro X hP hw hK hc i pins s σ H E I hf st hg
    subst hP hw hK
    obtain ⟨⟨old, he⟩, hit, hne⟩ := st
    have hel : e < s.heap.objs.size := Heap.lt_size he
    have hil : it < s.heap.objs.size := by obtain ⟨_, q, _⟩ := hit; exact Heap.lt_size q
    have D := Draws.text (prog := X.prog) (w := X.w) (A := X.A.in1) (I.ok.hd hc) it x t
    refine wpAny_pyNext_enum_itemD D he hit hg hne (by simpa using hne) fun u h' tk hu ho hit2 hT hsz hk => ?_
    obtain ⟨c, tc, hcx, rfl⟩ := hu
    refine ⟨_, rfl, wpAny_letOwnedTupleGo_enum (s := { s with heap := h', toks := tk + 1 }) ho fun h2 he2 sb => ?_⟩
    have hT2 : h2.get? s.heap.objs.size = some { cls := .type "tuple", data := .seq #[.int i tk, .str ⟨#[c]⟩ tc] } := (sb.2 _ (Nat.ne_of_gt hel)).trans hT
    have new : ObjOk X.prog X.w (upd H s.heap.objs.size (.tup [.int (i : Nat), .str ⟨#[c]⟩])) h2 s.heap.objs.size (.tup [.int (i : Nat), .str ⟨#[c]⟩]) :=
      ⟨by show 2 ≤ sizeLine; decide, [.int i tk, .str ⟨#[c]⟩ tc], .cons ⟨_, rfl⟩ (.cons ⟨_, rfl⟩ .nil), ⟨_, hT2, rfl, _, rfl⟩⟩
    have J : Inv X pins σ (upd H s.heap.objs.size (.tup [.int (i : Nat), .str ⟨#[c]⟩])) { s with heap := h2, toks := tk + 1 } :=
      I.turnedNew (t' := tk + 1) (ch := [e, it]) (fun b ob hb q => (sb.2 b (fun z => hb (by simp [z]))).trans (hk b ob (fun z => hb (by simp [z])) (fun z => hb (by simp [z])) q)) hf (Nat.le_refl _) new
    obtain ⟨oi, e3, r3⟩ := hit2
    refine ⟨.ref s.heap.objs.size, _, J, rfl, ⟨_, c, rfl, I.hok.fresh (Nat.le_refl _), rfl, hcx⟩, ⟨⟨.str ⟨#[c]⟩ tc, ?_⟩, ⟨oi, (sb.2 it (Ne.symm hne)).trans e3, r3⟩, hne⟩, fun b hb => ?_⟩
    · have e1 : ((i + 1 : Nat) : Int) = (i : Int) + 1 := by omega
      rw [e1]
      exact he2
    · have hbl : b < s.heap.objs.size := by
        have z2 : b = e ∨ b = it := by simpa using hb
        rcases z2 with rfl | rfl
        · exact hel
        · exact hil
      rw [upd_ne (Nat.ne_of_lt hbl)]
      exact (hf b hb).1
  done := by
    intro X hP hw hK hc i pins s σ H E I hf st hg
    subst hP hw hK
    obtain ⟨⟨old, he⟩, hit, hne⟩ := st
    obtain ⟨f0, f1, f2, f3, f4, f5⟩ := hf it (by simp)
    have D := Draws.text (prog := X.prog) (w := X.w) (A := X.A.in1) (I.ok.hd hc) it x t
    have hg' : i = x.cps.size := hg
    subst hg'
    exact wpAny_pyNext_enum_endD D he hit fun h' eb => ⟨rfl, I.turned (t' := s.toks) (fun b o hb q => eb b o hb q) f0 f1 f3 f4 f5⟩
  self := fun A i s Q E st h => let ⟨⟨_, he⟩, _⟩ := st; wpAny_pyIter_enum he h
theorem walk_enumS {z : Str} : Walk (Ites z) z.cps.size (fun _ => True) (fun i H v H' => ∃ T c, v = .ref T ∧ H T = none ∧ H' = upd H T (.tup [.int (i : Nat), .str ⟨#[c]⟩]) ∧ z.cps.toList[i]? = some c) :=
  ⟨fun _ _ hi _ => hi, fun _ _ => rfl, fun i H x H' _ _ y => by
    obtain ⟨T, c, e1, e2, e3, e4⟩ := y
    exact ⟨T, c, e1, e2, e3, by rw [Array.getElem?_toList]; exact e4⟩⟩
def iEnumS (ta : TA) : TI := fun σ H R => ta σ H fun vs H1 => ∃ x, vs = [.str x] ∧ R (Ites x) H1
theorem pi_enumS {X : Cx} {e : Expr} {ta : TA} {p pos tpos : Pos} {elts : List Expr} {kk : Nat} (hg : Gl X "enumerate") (hm : X.mg "enumerate" = none) (ha : PA X [e] ta) (hs : starEach [e] X.env = [(false, eval e X.env)] := by rfl) :
    PI X (.Tuple elts kk tpos) (.Call (.Name "enumerate" p) [e] [] pos) (iEnumS ta) := by
  refine ⟨fun pins s σ H R I h => ?_⟩
  refine Call_ (ld_blt I hg hm boot_enumerate (PyProof.Rows.callWith_type1 (thn (ha.run pos pins s σ H _ I h) fun us s1 ⟨vs, H1, I1, r1, q1⟩ => ?_) hs rfl))
  obtain ⟨x, rfl, q⟩ := q1
  obtain ⟨u, rfl, ru⟩ := vals1 r1
  obtain ⟨t, rfl⟩ := ru
  refine call_enumerate_str fun h' he hit hsz hk => wpAny_pyIter_enum he ?_
  have J : Inv X pins σ H1 { s1 with heap := h' } := I1.kept (t' := s1.toks) hk
  refine ⟨s1.heap.objs.size + 1, [s1.heap.objs.size + 1, s1.heap.objs.size], _, _, H1, rfl, J, turn_enumS (s1.heap.objs.size + 1) s1.heap.objs.size x t, ⟨⟨.none, he⟩, hit, Nat.succ_ne_self _⟩, fun b hb => ?_, q⟩
  have hle : s1.heap.objs.size ≤ b := by
    have z2 : b = s1.heap.objs.size + 1 ∨ b = s1.heap.objs.size := by simpa using hb
    rcases z2 with rfl | rfl
    · exact Nat.le_add_right _ _
    · exact Nat.le_refl _
  exact I1.fpOk hle (I1.hok.fresh hle)
end Rz

namespace Rz
open PySem PySem.Spec PyProof.Rows L2

abbrev SuR := Addr → Value → Option Addr → TS
/-- a clause: its class, the slot of its name if it has one, its suite -/
abbrev Cls1 := Value × Option Nat × SuR
def endM (i : Option Nat) (D : Ends) : Ends := match i with
  | none => D
  | some i => { nx := fun σ H => D.nx (σ.set i none) H, rt := D.rt, bk := fun σ H => D.bk (σ.set i none) H, ct := fun σ H => D.ct (σ.set i none) H }
def stM (i : Option Nat) (a : Addr) (σ : L2.St) : L2.St := match i with
  | none => σ
  | some i => σ.set i (some (.ref a))
def wMix (K : PySem.W.Frag) (Wout : WX) (D : Ends) : List Cls1 → WX
  | [] => Wout
  | (c, i, ts) :: r => fun cls d σ H => ∃ b, PySem.W.exmOne K cls c = some b ∧ (b = true → ∀ a, H a = none → ts a cls d (endM i D) (stM i a σ) H) ∧ (b = false → wMix K Wout D r cls d σ H)
inductive HdsM (X : Cx) : List ExceptHandler → List Cls1 → Prop
  | nil : HdsM X [] []
  | plain {x : Str} {c : Value} {ts : SuR} {b0 : Stmt} {suite : List Stmt} {np p2 : Pos} {hds : List ExceptHandler} {l : List Cls1} (hc : Names X x c)
      (su : ∀ (a : Addr) (oe : Obj) (cls : Value) (d : Option Addr) (pn : List (Addr × Obj)), Zc cls d oe → (∃ vs, oe.data = .fields vs) → PSs (X.suite a ((a, oe) :: pn)) (b0 :: suite) (ts a cls d))
      (r : HdsM X hds l) : HdsM X (.ExceptHandler (some (.Name x np)) none (b0 :: suite) p2 :: hds) ((c, none, ts) :: l)
  | named {x n : Str} {i : Nat} {c : Value} {ts : SuR} {b0 : Stmt} {suite : List Stmt} {np p2 : Pos} {hds : List ExceptHandler} {l : List Cls1} (hN : X.N.Nodup) (hi : X.N[i]? = some n) (hl : X.env.kindOf n = some .local) (hc : Names X x c)
      (su : ∀ (a : Addr) (oe : Obj) (cls : Value) (d : Option Addr) (pn : List (Addr × Obj)), Zc cls d oe → (∃ vs, oe.data = .fields vs) → PSs (X.suite a ((a, oe) :: pn)) (b0 :: suite) (ts a cls d))
      (r : HdsM X hds l) : HdsM X (.ExceptHandler (some (.Name x np)) (some n) (b0 :: suite) p2 :: hds) ((c, some i, ts) :: l)
section
variable {X : Cx} {body : List Stmt} {h0 : ExceptHandler} {hds : List ExceptHandler} {l : List Cls1} {pos : Pos} {tb : WX → TS} {Wout : WX}
theorem ps_try_mix (hs : X.stack = X.env :: X.outer) (hf : X.env.frame = some X.env.locals) (tk : Takes X Wout)
    (hb : ∀ (W : WX) (pn : List (Addr × Obj)) (xe : Value → Shared → Prop), Takes (X.tr pn xe) W → PassesOwn (model X.prog X.w) X.A X.env xe → PSs (X.tr pn xe) body (tb W))
    (hh : HdsM X (h0 :: hds) l) : PS X (.Try body (h0 :: hds) [] [] pos) (fun D σ H => tb (wMix X.K Wout D l) D σ H) := by
  refine ⟨fun pins s σ H D I h => ?_⟩
  have ok := I.ok
  have fr0 : X.A.frames = some (X.env :: X.outer) := ok.frames.trans (by rw [hs])
  refine wpAny_Try_except ?_
  refine wpAny_mono ((hb (wMix X.K Wout D l) (X.pn ++ pins) (fun e sa => wpAny (model X.prog X.w) X.A (noteFrame e X.env) (fun _ sb => wpAny (model X.prog X.w) X.A (setFlight e none) (fun _ sc =>
    wpAny (model X.prog X.w) X.A (handleBy e X.env (h0 :: hds)) (SP X pins D) X.xe sc) X.xe sb) X.xe sa) (fun u s2 air => ?_) PassesOwn.looking).run [] s σ H D (I.toTry _) h) (fun f s1 hsp => ?_) (fun e s1 he => he)
  · obtain ⟨a, B, sI, pins2, σ2, H2, cls, d, rfl, J0, nb, up, sky, na, os, ag, w⟩ := air
    have J := J0.ofTry ok
    rw [hs] at sky
    show wpAny (model X.prog X.w) X.A (noteFrame (.ref a) X.env) _ _ _
    refine Sky.land Zc.steady fr0 hf sky fun g3 fl3 up3 => ?_
    have J3 : Inv X pins σ2 H2 { s2 with heap := g3 } := J.landed nb fl3.1 (up.trans up3) os ag
    obtain ⟨o3, vs3, e3, z3, d3⟩ := fl3.there
    have nfr : a ∉ frs (X.env :: X.outer) := fun hm => by
      obtain ⟨_, o', e', hnf⟩ := fl3.2.2.1.mem hm
      rw [e3] at e'
      cases e'
      exact hnf _ d3
    have nL : a ≠ X.env.locals := fun z => nfr (List.mem_filterMap.mpr ⟨X.env, List.mem_cons_self, by rw [hf, z]⟩)
    have nF : a ∉ X.fs := fun hm => by
      obtain ⟨e, he, q⟩ := List.mem_filterMap.mp hm
      exact nfr (List.mem_filterMap.mpr ⟨e, List.mem_cons_of_mem _ he, q⟩)
    have S3 := J3.suite e3 d3 na nL nF
    have look : ∀ {x : Str} {np : Pos} {c : Value} {Q : Value → Shared → Prop} {E : Value → Shared → Prop}, Names X x c → Q c { s2 with heap := g3 } → wpAny (model X.prog X.w) (X.A.mark (some (.ref a))) (eval (.Name x np) X.env) Q E { s2 with heap := g3 } := fun {x np c Q E} hc q => by
      obtain ⟨hg, hdbg, hm | ⟨hm, hv, hnn⟩⟩ := hc
      · exact ld_glob (X := X.suite a ((a, o3) :: (X.pn ++ pins))) S3 hg hm q hdbg
      · exact ld_blt (X := X.suite a ((a, o3) :: (X.pn ++ pins))) S3 hg hm hv q hnn hdbg
    have LT : PySem.W.Looks (model X.prog X.w) g3 (typeOf (.ref a)) cls := fun A Q E s k q => wpAny_typeOf_ref (k _ _ e3) (by rw [z3.1]; exact q)
    have go : ∀ {hds2 : List ExceptHandler} {l2 : List Cls1}, HdsM X hds2 l2 → wMix X.K Wout D l2 cls d σ2 H2 →
        wpAny (model X.prog X.w) X.A (handleBy (.ref a) X.env hds2) (SP X pins D) X.xe { s2 with heap := g3 } := by
      intro hds2 l2 hk
      induction hk with
      | nil =>
        intro w
        refine wpAny_handleBy_nil ?_
        obtain ⟨k1, k2, k3, oe, vs, T, oT, tr, he, hz, hd, h1, hr⟩ := id fl3
        unfold PySem.passOn
        refine wpAny_bind (wpAny_field he hd h1 ?_)
        rw [if_neg (show ¬ ((Value.ref T == Value.none) = true) from by simp)]
        have fin : wpAny (model X.prog X.w) X.A (setFlight (.ref a) X.env.frame) (fun _ s4 => wpAny (model X.prog X.w) X.A (throw (.ref a) : Sem Flow) (SP X pins D) X.xe s4) X.xe { s2 with heap := g3 } := by
          rw [hf]
          refine HandSPX.setFlight_upZ fl3 fun g4 hh4 up4 => wpAny_throw (tk _ _ ?_)
          exact ⟨a, B, sI, pins, σ2, H2, cls, d, rfl, J, nb, (up.trans up3).trans up4, .inr (.inr (by rw [hs]; exact hh4)), na, os, ag, w⟩
        first
          | exact wpAny_bind (wpAny_pure (wpAny_bind fin))
          | exact wpAny_bind fin
      | @plain x c ts b0 suite np p2 hds3 l3 hc su r ih =>
        intro w
        obtain ⟨b, hb1, hyes, hno⟩ := w
        refine wpAny_handleBy_cons (codeAny_handlers_test ?_) (by intro q; cases q)
        refine look hc ((PySem.W.exm_one (M := model X.prog X.w) J3.kIn LT hb1).here ?_)
        cases b with
        | true =>
          refine codeAny_handlers_suite ?_
          refine HandSPX.lands_againZ fl3 fun g4 fl4 up4 => ?_
          have J4 : Inv X pins σ2 H2 { s2 with heap := g4 } := J.landed nb fl4.1 ((up.trans up3).trans up4) os ag
          obtain ⟨o4, vs4, e4, z4, d4⟩ := fl4.there
          refine wpAny_mono ((su a o4 cls d (X.pn ++ pins) z4 ⟨_, d4⟩).run [] _ _ H2 _ (J4.suite e4 d4 na nL nF) (hyes rfl a na)) (fun f s6 hsp => ?_) (fun _ _ z => False.elim z)
          cases f with
          | next => obtain ⟨_, _, S6, q6⟩ := hsp; exact ⟨_, _, S6.unsuite ok, q6⟩
          | brk => obtain ⟨_, _, S6, q6⟩ := hsp; exact ⟨_, _, S6.unsuite ok, q6⟩
          | cont => obtain ⟨_, _, S6, q6⟩ := hsp; exact ⟨_, _, S6.unsuite ok, q6⟩
          | ret u => obtain ⟨_, _, _, S6, r6, q6⟩ := hsp; exact ⟨_, _, _, S6.unsuite ok, r6, q6⟩
        | false =>
          show wpAny _ X.A (handleBy (.ref a) X.env hds3) _ _ _
          exact ih (hno rfl)
      | @named x n i c ts b0 suite np p2 hds3 l3 hN hi hln hc su r ih =>
        intro w
        obtain ⟨b, hb1, hyes, hno⟩ := w
        refine wpAny_handleBy_cons (codeAny_handlers_test ?_) (by intro q; cases q)
        refine look hc ((PySem.W.exm_one (M := model X.prog X.w) J3.kIn LT hb1).here ?_)
        cases b with
        | true =>
          refine codeAny_handlers_suite_as ?_
          refine HandSPX.lands_againZ fl3 fun g4 fl4 up4 => ?_
          have J4 : Inv X pins σ2 H2 { s2 with heap := g4 } := J.landed nb fl4.1 ((up.trans up3).trans up4) os ag
          obtain ⟨o4, vs4, e4, z4, d4⟩ := fl4.there
          refine store_ok (X := X.suite a ((a, o4) :: (X.pn ++ pins))) (v := .ref a) (J4.suite e4 d4 na nL nF) hN hi (.inl hln) rfl (fun s5 S5 => ?_) (.inr hln)
          refine wpAny_mono ((su a o4 cls d (X.pn ++ pins) z4 ⟨_, d4⟩).run [] s5 _ H2 _ S5 (hyes rfl a na)) (fun f s6 hsp => ?_) (fun _ _ z => False.elim z)
          have away : ∀ {σ6 : L2.St} {H6 : Hp} {Q : Shared → Prop}, Inv (X.suite a ((a, o4) :: (X.pn ++ pins))) [] σ6 H6 s6 → (∀ s7, Inv X pins (σ6.set i none) H6 s7 → Q s7) →
              wpAny (model X.prog X.w) X.A (do bindName X.env n .none; unbindBehindTheSuite X.env n p2) (fun _ s7 => Q s7) X.xe s6 := fun {σ6 H6 Q} S6 hq => gone_ok (S6.unsuite ok) hN hi hln hq
          cases f with
          | next => obtain ⟨_, _, S6, q6⟩ := hsp; exact away S6 fun s7 J7 => ⟨_, _, J7, q6⟩
          | brk => obtain ⟨_, _, S6, q6⟩ := hsp; exact away S6 fun s7 J7 => ⟨_, _, J7, q6⟩
          | cont => obtain ⟨_, _, S6, q6⟩ := hsp; exact away S6 fun s7 J7 => ⟨_, _, J7, q6⟩
          | ret u => obtain ⟨_, _, _, S6, r6, q6⟩ := hsp; exact away S6 fun s7 J7 => ⟨_, _, _, J7, r6, q6⟩
        | false =>
          show wpAny _ X.A (handleBy (.ref a) X.env hds3) _ _ _
          exact ih (hno rfl)
    exact go hh w
  · cases f with
    | next => obtain ⟨_, _, S6, q6⟩ := hsp; exact wpAny_execs_nil ⟨_, _, S6.ofTry ok, q6⟩
    | brk => obtain ⟨_, _, S6, q6⟩ := hsp; exact ⟨_, _, S6.ofTry ok, q6⟩
    | cont => obtain ⟨_, _, S6, q6⟩ := hsp; exact ⟨_, _, S6.ofTry ok, q6⟩
    | ret u => obtain ⟨_, _, _, S6, r6, q6⟩ := hsp; exact ⟨_, _, _, S6.ofTry ok, r6, q6⟩
end
end Rz

namespace Rz
open PySem PySem.Spec PyProof.Rows L2
/-! ### calls whose exceptions are wished for at the caller's slots -/
abbrev EX := L2.St → XK
/-- nothing is let out -/
abbrev EN : EX := fun _ => E0
theorem atN {X : Cx} (σ : L2.St) : PassesAt (L2.CX X.prog X.w) X σ (EN σ) := fun _ _ _ _ _ _ h => by
  obtain ⟨_, _, _, _, _, _, _, _, _, _, _, _, z⟩ := h
  exact z.elim
section
variable {X : Cx} {CX : CXT} {k : Nat} {f C : Addr} {fd : FuncData} {ps : List Str} {sp : Sp} {dvs : List V} {ds : List Value} {E : EX} {x m : Str} {p pos apos : Pos} {e o : Expr} {es : List Expr} {ta : TE} {t : TA}
theorem run_X {pins : List (Addr × Obj)} {σ : L2.St} {H : Hp} {s : Shared} {Q : VK} {us : List Value} {vs : List V} {A : Around} (F : FnOk X.prog X.w X.K X.mg X.base CX k f fd ps sp) (hr : Room k A) (hfr : A.frames = X.A.frames) (hb : Binds X.K fd ps ds) (hd : Vals dvs ds) (hx : PassesAt CX X σ (E σ))
    (I : Inv X pins σ H s) (r : Vals vs us) (h : sp (vs ++ dvs) H Q (E σ)) : codeAny (model X.prog X.w) A (.call (.ref f) ⟨us, []⟩) (fun q s' => match q with
      | .ok (.ret u) => EP X pins σ Q u s'
      | .ok _ => False
      | .error er => X.xe er s') s := by
  have e0 : Env0 X.prog X.w X.K X.mg X.base A X.stack s H := by
    have z := I.env0
    exact ⟨by rw [hfr]; exact z.frames, z.mod, z.bs, z.bsz, z.funs, z.frf, z.hok, z.bare⟩
  have hz := F.len _ _ _ _ h
  rw [(r.append hd).length] at hz
  refine codeAny_mono (F.run A X.stack s H ⟨us, []⟩ (us ++ ds) (vs ++ dvs) Q (E σ) hr e0 (hb s us I.kIn hz) (r.append hd) h) fun q s' hq => ?_
  match q, hq with
  | .error er, hq => exact hx pins H s er s' I hq
  | .ok (.ret u), hq => exact I.after hq
  | .ok .next, hq => exact hq
  | .ok .brk, hq => exact hq
  | .ok .cont, hq => exact hq
theorem ended {pins : List (Addr × Obj)} {σ : L2.St} {Q : VK} {q : Result} {s' : Shared} (h : match q with
      | .ok (.ret u) => EP X pins σ Q u s'
      | .ok _ => False
      | .error er => X.xe er s') : wants (EP X pins σ Q) X.xe q s' := by
  match q, h with
  | .error er, h => exact h
  | .ok (.ret u), h => exact h
  | .ok .next, h => exact h.elim
  | .ok .brk, h => exact h.elim
  | .ok .cont, h => exact h.elim
theorem run_XC {pins : List (Addr × Obj)} {σ : L2.St} {H : Hp} {s : Shared} {Q : VK} {us : List Value} {vs : List V} (F : FnOk X.prog X.w X.K X.mg X.base CX k f fd ps sp) (hr : Room k X.A) (hb : Binds X.K fd ps ds) (hd : Vals dvs ds) (hx : PassesAt CX X σ (E σ))
    (I : Inv X pins σ H s) (r : Vals vs us) (h : sp (vs ++ dvs) H Q (E σ)) : wpAny (model X.prog X.w) X.A (call (.ref f) us) (EP X pins σ Q) X.xe s :=
  wpAny_call (codeAny_mono (run_X F hr rfl hb hd hx I r h) fun _ _ hq => ended hq)
/-- f(..) -/
def tFn (sp : Sp) (dvs : List V) (E : EX) (t : TA) : TE := fun σ H Q => t σ H fun vs H1 => sp (vs ++ dvs) H1 Q (E σ)
theorem pe_fn (F : FnOk X.prog X.w X.K X.mg X.base CX k f fd ps sp) (hr : Room k X.A) (hg : Gl X x) (hm : X.mg x = some (.ref f)) (hk : PySem.W.keepIn X.K (.ref f) = true) (hb : Binds X.K fd ps ds) (hd : Vals dvs ds) (hx : ∀ σ, PassesAt CX X σ (E σ))
    (ha : PA X (e :: es) t) (hdb : (x == ("__debug__" : Str)) = false := by decide) (he : starEach (e :: es) X.env = (false, eval e X.env) :: starEach es X.env := by rfl) (hpl : (backTo pos (starEach es X.env)).any (·.1) = false := by rfl) :
    PE X (.Call (.Name x p) (e :: es) [] pos) (tFn sp dvs E t) := ⟨fun pins s σ H Q I h =>
  wpAny_Call_Name_kw (ld_glob I hg hm (PySem.W.callWith_K (h₀ := X.base) I.ok.mod.kin hk (thn (ha.run pos pins s σ H _ I h) fun us s1 ⟨vs, H1, J, r, q⟩ => ⟨J.kIn, run_XC F hr hb hd (hx σ) J r q⟩) he hpl) hdb)⟩
theorem pe_fn0 (F : FnOk X.prog X.w X.K X.mg X.base CX k f fd ps sp) (hr : Room k X.A) (hg : Gl X x) (hm : X.mg x = some (.ref f)) (hk : PySem.W.keepIn X.K (.ref f) = true) (hb : Binds X.K fd ps ds) (hd : Vals dvs ds) (hx : ∀ σ, PassesAt CX X σ (E σ))
    (hdb : (x == ("__debug__" : Str)) = false := by decide) : PE X (.Call (.Name x p) [] [] pos) (tFn sp dvs E tNil) := ⟨fun pins s σ H Q I h =>
  wpAny_Call_Name_kw (ld_glob I hg hm (PySem.W.callWith_K0 I.kIn hk (run_XC (us := []) F hr hb hd (hx σ) I .nil h)) hdb)⟩
/-- o.m(..) -/
def tMt (C : Addr) (m : Str) (sp : Sp) (dvs : List V) (E : EX) (ta : TE) (t : TA) : TE := fun σ H Q => ta σ H fun x H1 => ∃ a dx fs, x = .ref a ∧ H1 a = some (.ins C dx fs) ∧ fs.lookup m = none ∧
  t σ H1 fun vs H2 => sp (x :: (vs ++ dvs)) H2 Q (E σ)
theorem pe_mt {pl : Sem Bool} (he : PE X o ta) (c : Cls X.K C) (hm : Meth X.K C m f) (F : FnOk X.prog X.w X.K X.mg X.base CX k f fd ps sp) (hr : Room k X.A) (hb : Binds X.K fd ps ds) (hd : Vals dvs ds) (hx : ∀ σ, PassesAt CX X σ (E σ)) (ha : PA X (e :: es) t)
    (hst : starEach (e :: es) X.env = (false, eval e X.env) :: starEach es X.env := by rfl) (hpl : (backTo pos (starEach es X.env)).any (·.1) = false := by rfl)
    (ht : eval (.Call (.Attribute o m apos) (e :: es) [] pos) X.env = (do
      let ov ← eval o X.env
      standAt apos.atName
      let (f, first) ← holding [ov] (getMethod ov m pl)
      callWith pos f first (backTo pos (starEach (e :: es) X.env)) (backToKw pos (keywordEach [] X.env))) := by rfl) :
    PE X (.Call (.Attribute o m apos) (e :: es) [] pos) (tMt C m sp dvs E ta t) := by
  refine ⟨fun pins s σ H Q I h => PySem.W.methodCall_KW (pl := pl) (thn (he.run pins s σ H _ I h) fun u s1 hh => ?_) ht⟩
  obtain ⟨x, H1, J, rx, a, dx, fs, rfl, ea, l, q⟩ := hh
  obtain rfl : u = Value.ref a := rx
  refine getmeth_ok J ea c hm l (PySem.W.callWith_K (first := [.ref a]) (h₀ := X.base) I.ok.mod.kin hm.kp (thn (ha.run pos pins s1 σ H1 _ J q) fun us s2 ⟨vs, H2, J2, r, q2⟩ => ⟨J2.kIn, ?_⟩) hst hpl)
  exact run_XC (us := .ref a :: us) (vs := .ref a :: vs) F hr hb hd (hx σ) J2 (.cons rfl r) q2
theorem pe_mt0 {pl : Sem Bool} (he : PE X o ta) (c : Cls X.K C) (hm : Meth X.K C m f) (F : FnOk X.prog X.w X.K X.mg X.base CX k f fd ps sp) (hr : Room k X.A) (hb : Binds X.K fd ps ds) (hd : Vals dvs ds) (hx : ∀ σ, PassesAt CX X σ (E σ))
    (ht : eval (.Call (.Attribute o m apos) [] [] pos) X.env = (do
      let ov ← eval o X.env
      standAt apos.atName
      let (f, first) ← holding [ov] (getMethod ov m pl)
      callWith pos f first (backTo pos (starEach [] X.env)) (backToKw pos (keywordEach [] X.env))) := by rfl) :
    PE X (.Call (.Attribute o m apos) [] [] pos) (tMt C m sp dvs E ta tNil) := by
  refine ⟨fun pins s σ H Q I h => PySem.W.methodCall_KW (pl := pl) (thn (he.run pins s σ H _ I h) fun u s1 hh => ?_) ht⟩
  obtain ⟨x, H1, J, rx, a, dx, fs, rfl, ea, l, q⟩ := hh
  obtain rfl : u = Value.ref a := rx
  refine getmeth_ok J ea c hm l (PySem.W.callWith_K0 (first := [.ref a]) J.kIn hm.kp ?_)
  exact run_XC (us := [.ref a]) (vs := [.ref a]) F hr hb hd (hx σ) J (.cons rfl .nil) q
/-- C(..): a new instance, then its __init__ -/
def tMk (C : Addr) (sp : Sp) (dvs : List V) (E : EX) (t : TA) : TE := fun σ H Q => t σ H fun vs H1 => ∀ x dx, H1 x = none → H1 dx = none → dx ≠ x →
  sp (.ref x :: (vs ++ dvs)) (upd (upd H1 dx (.own x)) x (.ins C dx [])) (fun v H2 => v = .non ∧ Q (.ref x) H2) (E σ)
theorem run_mk {pins : List (Addr × Obj)} {σ : L2.St} {H : Hp} {s : Shared} {Q : VK} {us : List Value} {vs : List V} (M : Mk X.K C f) (F : FnOk X.prog X.w X.K X.mg X.base CX k f fd ps sp) (hr : Room (k + 1) X.A) (hb : Binds X.K fd ps ds) (hd : Vals dvs ds)
    (hx : PassesAt CX X σ (E σ)) (I : Inv X pins σ H s) (r : Vals vs us)
    (h : ∀ x dx, H x = none → H dx = none → dx ≠ x → sp (.ref x :: (vs ++ dvs)) (upd (upd H dx (.own x)) x (.ins C dx [])) (fun v H2 => v = .non ∧ Q (.ref x) H2) (E σ)) :
    wpAny (model X.prog X.w) X.A (call (.ref C) us) (EP X pins σ Q) X.xe s := by
  have hq := h (s.heap.objs.size + 1) s.heap.objs.size (I.hok.fresh (Nat.le_succ _)) (I.hok.fresh (Nat.le_refl _)) (Nat.ne_of_lt (Nat.lt_succ_self _))
  have J := Inv.made (C := C) I
  refine wpAny_call (make_map (f := f) I.kIn M.makes M.init (beq_iff_eq.mp M.fn) (codeAny_mono (run_X (vs := .ref (s.heap.objs.size + 1) :: vs) (us := .ref (s.heap.objs.size + 1) :: us) F (hr.make C us []) ((J.env0.make C us []).frames.trans J.ok.frames.symm) hb hd hx J (.cons rfl r) hq) fun q s' hq' => ?_))
  match q, hq' with
  | .error er, hq' => exact hq'
  | .ok (.ret u), hq' =>
    obtain ⟨v, H2, J2, rv, ev, q3⟩ := hq'
    subst ev
    exact ⟨rv, ⟨V.ref (s.heap.objs.size + 1), H2, J2, rfl, q3⟩⟩
  | .ok .next, hq' => exact hq'.elim
  | .ok .brk, hq' => exact hq'.elim
  | .ok .cont, hq' => exact hq'.elim
theorem pe_mk (M : Mk X.K C f) (F : FnOk X.prog X.w X.K X.mg X.base CX k f fd ps sp) (hr : Room (k + 1) X.A) (hg : Gl X x) (hm : X.mg x = some (.ref C)) (hb : Binds X.K fd ps ds) (hd : Vals dvs ds) (hx : ∀ σ, PassesAt CX X σ (E σ))
    (ha : PA X (e :: es) t) (hdb : (x == ("__debug__" : Str)) = false := by decide) (he : starEach (e :: es) X.env = (false, eval e X.env) :: starEach es X.env := by rfl) (hpl : (backTo pos (starEach es X.env)).any (·.1) = false := by rfl) :
    PE X (.Call (.Name x p) (e :: es) [] pos) (tMk C sp dvs E t) := ⟨fun pins s σ H Q I h =>
  wpAny_Call_Name_kw (ld_glob I hg hm (PySem.W.callWith_K (h₀ := X.base) I.ok.mod.kin M.kp (thn (ha.run pos pins s σ H _ I h) fun us s1 ⟨vs, H1, J, r, q⟩ => ⟨J.kIn, run_mk M F hr hb hd (hx σ) J r q⟩) he hpl) hdb)⟩
theorem pe_mk0 (M : Mk X.K C f) (F : FnOk X.prog X.w X.K X.mg X.base CX k f fd ps sp) (hr : Room (k + 1) X.A) (hg : Gl X x) (hm : X.mg x = some (.ref C)) (hb : Binds X.K fd ps ds) (hd : Vals dvs ds) (hx : ∀ σ, PassesAt CX X σ (E σ))
    (hdb : (x == ("__debug__" : Str)) = false := by decide) : PE X (.Call (.Name x p) [] [] pos) (tMk C sp dvs E tNil) := ⟨fun pins s σ H Q I h =>
  wpAny_Call_Name_kw (ld_glob I hg hm (PySem.W.callWith_K0 I.kIn M.kp (run_mk (us := []) M F hr hb hd (hx σ) I .nil h)) hdb)⟩
/-- e.f, a property -/
def tPr (C : Addr) (sp : Sp) (E : EX) (ta : TE) : TE := fun σ H Q => ta σ H fun x H1 => ∃ a dx fs, x = .ref a ∧ H1 a = some (.ins C dx fs) ∧ sp [.ref a] H1 Q (E σ)
theorem pe_pr {p g : Addr} {fn : Str} (he : PE X e ta) (c : Cls X.K C) (hp : PropOf X.K C fn p g) (F : FnOk X.prog X.w X.K X.mg X.base CX k g fd ps sp) (hr : Room (k + 1) X.A) (hb : Binds X.K fd ps []) (hx : Passes CX X.nox E0)
    (hab : attributeBase e fn X.env (eval e X.env) = eval e X.env := by rfl) : PE X (.Attribute e fn pos) (tPr C sp EN ta) := by
  have z := pe_prop (pos := pos) he c hp F hr hb .nil hx hab
  exact z
end
/-- .. nothing leaves -/
theorem passN {X : Cx} : Passes (L2.CX X.prog X.w) X E0 := fun _ σ H s e s' I h => atN (X := X) σ [] H s e s' (I.pins_of (pins' := []) fun p hp => by cases hp) h
end Rz

namespace Rz
open PySem PySem.Spec PyProof.Rows L2
/-! ### short words -/
/-- all but what stands at D is as it was -/
def But (D : List Addr) (H H' : Hp) : Prop := ∀ b o, b ∉ D → H b = some o → H' b = some o
theorem But.refl (D : List Addr) (H : Hp) : But D H H := fun _ _ _ h => h
theorem But.trans {D : List Addr} {H H1 H2 : Hp} (a : But D H H1) (b : But D H1 H2) : But D H H2 := fun c o n h => b c o n (a c o n h)
theorem But.mono {D D' : List Addr} {H H' : Hp} (a : But D H H') (h : ∀ b ∈ D, b ∈ D') : But D' H H' := fun c o n e => a c o (fun z => n (h c z)) e
theorem But.of {D : List Addr} {H H' : Hp} (h : Same H H') : But D H H' := fun b o _ e => h b o e
theorem But.same {H H' : Hp} (h : But [] H H') : Same H H' := fun b o e => h b o (by simp) e
theorem But.at {D : List Addr} {H H' : Hp} {b : Addr} {o : HO} (h : But D H H') (e : H b = some o) (n : b ∉ D := by simp) : H' b = some o := h b o n e
theorem But.upd {D : List Addr} {H H' : Hp} {p : Addr} {o : HO} (h : But D H H') (hp : p ∈ D ∨ H p = none) : But D H (upd H' p o) := fun b u n e => by
  have nb : b ≠ p := fun z => by
    subst z
    rcases hp with hp | hp
    · exact n hp
    · rw [hp] at e; cases e
  rw [upd_ne nb]
  exact h b u n e
theorem Same.upd {H H' : Hp} {p : Addr} {o : HO} (h : Same H H') (hp : H p = none) : Same H (upd H' p o) := fun b u e => by
  have nb : b ≠ p := fun z => by
    subst z
    rw [hp] at e; cases e
  rw [upd_ne nb]
  exact h b u e
theorem Same.new {H H' : Hp} {p : Addr} {o : HO} (h : Same H H') (hp : H' p = none) : Same H (L2.upd H' p o) := Rz.Same.upd h (h.free hp)
theorem Same.seqT {K : PySem.W.Frag} {H H' : Hp} {a : Addr} {xs : List V} (e : Same H H') (h : SqT K H a xs) : SqT K H' a xs := by
  rcases h with (h | ⟨o, h⟩) | h
  · exact .inl (.inl (e _ _ h))
  · exact .inl (.inr ⟨o, e _ _ h⟩)
  · exact .inr h
theorem But.free {D : List Addr} {H H' : Hp} (e : But D H H') {l : Addr} (n : l ∉ D) (h : H' l = Option.none) : H l = Option.none := by
  cases q : H l with
  | none => rfl
  | some o => rw [e l o n q] at h; cases h
section
variable {P : Program} {w : World} {K : PySem.W.Frag} {mg : Str → Option Value} {base : Heap}
/-- a def that lets nothing out -/
theorem Fun.okN {x qual : Str} {st : Stmt} {f : Addr} {fd : FuncData} {N ps : List Str} {k : Nat} {sp : Sp} (F : Fun K x qual st f fd) (S : FnScope N ps (defScope st)) (len : ∀ vs H Q E, sp vs H Q E → vs.length = ps.length)
    (hb : ∀ (cdv : Value) (A : Around) (outer : List Env) (s : Shared) (H : Hp) (vs : List V) (Q : VK) (E : XK), Room k (A.deeper (envOfC qual (defScope st) s.heap.objs.size f cdv)) → sp vs H Q E →
      ∃ t, PSs (cxOf (L2.CX P w) P w K mg base N qual (defScope st) f cdv A outer s H E).nox (defBody st) t ∧ t { nx := fun _ H' => Q .non H', rt := Q } (start N vs) H) : FnOk P w K mg base (L2.CX P w) (k + 1) f fd ps sp :=
  F.okX S len fun cdv A outer s H vs Q E hr h => let ⟨t, h1, h2⟩ := hb cdv A outer s H vs Q E hr h; ⟨t, h1.nox, h2⟩
end
/-! ### the law's draws -/
def Dr (H : Hp) (d : Addr) : Prop := ∃ ns : List Int, H d = some (.lst (ns.map V.int)) ∧ ns.length ≤ 4000
theorem Dr.same {H H' : Hp} {d : Addr} (h : Dr H d) (e : Same H H') : Dr H' d := let ⟨ns, h1, h2⟩ := h; ⟨ns, e _ _ h1, h2⟩
theorem mapi_get {ns : List Int} {i : Nat} {y : V} (h : (ns.map V.int)[i]? = some y) : ∃ u, ns[i]? = some u ∧ y = .int u := by
  rw [List.getElem?_map] at h
  cases e : ns[i]? with
  | none => rw [e] at h; cases h
  | some u => rw [e] at h; exact ⟨u, rfl, (Option.some.inj h).symm⟩
theorem no_cx : ∀ {P : Program} (w : World) (H : Hp) (s : Shared) (e : Value) (s' : Shared), L2.CX P w [] H s (fun _ _ _ => False) e s' → False := fun _ _ _ _ _ h => by
  obtain ⟨_, _, _, _, _, _, _, _, _, _, _, _, z⟩ := h
  exact z
end Rz
namespace Rz
open PySem PySem.Spec PyProof.Rows L2
theorem joinL_nil : ∀ ps : List (List Nat), TL.joinL [] ps = ps.flatten
  | [] => rfl
  | [p] => by simp [TL.joinL]
  | p :: q :: r => by
    have ih := joinL_nil (q :: r)
    show p ++ ([] ++ TL.joinL [] (q :: r)) = _
    rw [ih]
    simp
theorem join0 (ys : List Str) : (Txt.join "" ys).cps.toList = (ys.map fun y => y.cps.toList).flatten := by
  rw [TL.join_eq]
  exact (TL.tl_join "" ys).trans (joinL_nil _)
theorem join0_len (ys : List Str) : (Txt.join "" ys).length = (ys.map fun y => y.length).sum := by
  have h := congrArg List.length (join0 ys)
  rw [List.length_flatten, List.map_map] at h
  exact h
/-- every sign of x is one of z -/
def Over (z x : Str) : Prop := ∀ c ∈ x.cps.toList, c ∈ z.cps.toList
theorem over_join {z : Str} {ys : List Str} (h : ∀ y ∈ ys, Over z y) : Over z (Txt.join "" ys) := fun c hc => by
  rw [join0, List.mem_flatten] at hc
  obtain ⟨l, hl, hc⟩ := hc
  obtain ⟨y, hy, rfl⟩ := List.mem_map.mp hl
  exact h y hy c hc
theorem sum_ones : ∀ {ys : List Str}, (∀ y ∈ ys, y.length = 1) → (ys.map fun y => y.length).sum = ys.length
  | [], _ => rfl
  | y :: r, h => by
    rw [List.map_cons, List.sum_cons, sum_ones (ys := r) fun z hz => h z (List.mem_cons_of_mem _ hz), h y List.mem_cons_self, List.length_cons]
    omega
theorem atI_in {α : Type} {xs : List α} {r : Int} (h0 : 0 ≤ r) (h1 : r < xs.length) : ∃ v, v ∈ xs ∧ atI xs r = some v := by
  obtain ⟨n, rfl⟩ := Int.eq_ofNat_of_zero_le h0
  have hn : n < xs.length := by omega
  exact ⟨xs[n], List.getElem_mem hn, atI_nat (List.getElem?_eq_getElem hn)⟩
theorem yesT {σ : L2.St} {H : Hp} {A B : Hp → Prop} (h : A H) : tYes σ H fun b H3 => if b = true then A H3 else B H3 := by
  show (if true = true then A H else B H)
  rw [if_pos rfl]
  exact h
theorem len_list (z : Str) : z.cps.toList.length = z.length := rfl
end Rz
namespace Rz
open PySem PySem.Spec PyProof.Rows L2
/-! ### signs -/
def abc : Str := "abcdefghijklmnopqrstuvwxyz"
def oddC (c : Nat) : Bool := !decide (c ∈ abc.cps.toList)
/-- the place of the first character that is no sign -/
def fo (z : Str) : Option Nat := z.cps.toList.findIdx? oddC
def foI (z : Str) : Int := match fo z with
  | some i => (i : Int)
  | none => -1
theorem fo_some {z : Str} {i : Nat} {c : Nat} (h : z.cps.toList[i]? = some c) (ho : oddC c = true) (hb : ∀ (j c : Nat), j < i → z.cps.toList[j]? = some c → oddC c = false) : fo z = some i := by
  obtain ⟨hi, hc⟩ := List.getElem?_eq_some_iff.mp h
  refine List.findIdx?_eq_some_iff_getElem.mpr ⟨hi, by rw [hc]; exact ho, fun j hj => ?_⟩
  have e := hb j _ hj (List.getElem?_eq_getElem (Nat.lt_trans hj hi))
  rw [e]
  exact Bool.false_ne_true
theorem fo_none {z : Str} (h : ∀ (j c : Nat), z.cps.toList[j]? = some c → oddC c = false) : fo z = none :=
  List.findIdx?_eq_none_iff.mpr fun c hc => by
    obtain ⟨j, hj, e⟩ := List.getElem_of_mem hc
    exact h j c (by rw [List.getElem?_eq_getElem hj, e])
theorem fo_lt {z : Str} {i : Nat} (h : fo z = some i) : i < z.length := by
  obtain ⟨hi, _⟩ := List.findIdx?_eq_some_iff_getElem.mp h
  exact hi
theorem log_small {n : Int} {k : Nat} (h : n.natAbs < 2 ^ k) (hk : k ≤ 1919) : n.natAbs.log2 < 1920 := by
  by_cases h0 : n.natAbs = 0
  · rw [h0]
    decide
  · exact Nat.lt_of_lt_of_le ((Nat.log2_lt h0).mpr h) (by omega)
theorem log_nat {i : Nat} (h : i < 2 ^ 64) : (i : Int).natAbs.log2 < 1920 := log_small (k := 64) (by simpa using h) (by decide)
end Rz
namespace Rz
open PySem PySem.Spec PyProof.Rows L2
/-- what is asked where such an exception is made, and what is known then -/
theorem raise_fld {C : Addr} {fld : Str} {n : Int} {H1 : Hp} {Q : XK} (hn : n.natAbs.log2 < 1920) (q : ∀ H' d, Same H1 H' → H1 d = none → H' d = some (.xd [(fld, .int n)]) → Q (.ref C) (some d) H') :
    ∀ a, H1 a = none → spExI C fld (.ref a :: ([V.int n] ++ [])) (upd H1 a (exo a C none))
      (fun v H2 => v = .non ∧ ∃ (d : Addr) (fs : List (Str × V)), H2 a = some (exo a C (some d)) ∧ H2 d = some (exd d fs) ∧ H1 d = none ∧ Q (.ref C) (some d) (upd (del H2 a) d (.xd fs))) (fun _ _ _ => False) := fun a ha => by
  refine ⟨a, n, rfl, hn, upd_same, fun dx hdx nda => ⟨rfl, dx, [(fld, .int n)], by rw [upd_same], ?_, ?_, ?_⟩⟩
  · rw [upd_ne nda, upd_same]
  · rw [upd_ne nda] at hdx
    exact hdx
  · have hd1 : H1 dx = none := by
      rw [upd_ne nda] at hdx
      exact hdx
    refine q _ dx (fun b o e => ?_) hd1 upd_same
    have nba : b ≠ a := ne_of_none e ha
    have nbd : b ≠ dx := ne_of_none e hd1
    rw [upd_ne nbd, del_ne nba, upd_ne nba, upd_ne nbd, upd_ne nba]
    exact e
end Rz

namespace Rz
open PySem PySem.Spec PyProof.Rows L2
/-! ### data: lists of ints -/
abbrev dInts (ns : List Int) : PyData := .list (ns.map PyData.int)
theorem all_ints_lay : ∀ ns : List Int, PyData.canLayAll0 (ns.map PyData.int) = true
  | [] => rfl
  | n :: ns => by simp only [List.map_cons, PyData.canLayAll0, PyData.canLay0, all_ints_lay ns, Bool.and_self]
theorem all_ints_depth : ∀ ns : List Int, PyData.depthAll (ns.map PyData.int) = 0
  | [] => rfl
  | n :: ns => by simp only [List.map_cons, PyData.depthAll, PyData.depth, all_ints_depth ns, Nat.max_self]
theorem ints_shaped (ns : List Int) : SeqAt.shaped (dInts ns) = true := by
  have h : PyData.depth (dInts ns) ≤ 64 := by
    show PyData.depthAll (ns.map PyData.int) + 1 ≤ 64
    rw [all_ints_depth]
    decide
  show (PyData.canLayAll0 (ns.map PyData.int) && decide (PyData.depth (dInts ns) ≤ 64)) = true
  rw [all_ints_lay, decide_eq_true h]
  rfl
theorem ints_eqvA : ∀ a b : List Int, PyData.eqvAll (a.map PyData.int) (b.map PyData.int) = decide (a = b)
  | [], [] => rfl
  | [], _ :: _ => by simp [PyData.eqvAll]
  | _ :: _, [] => by simp [PyData.eqvAll]
  | x :: xs, y :: ys => by
    rw [List.map_cons, List.map_cons, PyData.eqvAll, ints_eqvA xs ys]
    show ((x == y) && decide (xs = ys)) = _
    by_cases h : x = y
    · subst h; simp
    · simp [h]
theorem ints_eqv (a b : List Int) : PyData.eqv (dInts a) (dInts b) = decide (a = b) := by
  show PyData.eqvAll _ _ = _
  exact ints_eqvA a b
theorem dp_intsA {K : PySem.W.Frag} {H : Hp} : ∀ ns : List Int, DpAll K H (ns.map V.int) (ns.map PyData.int)
  | [] => .nil
  | n :: ns => .cons (.int n) (dp_intsA ns)
theorem dp_ints {K : PySem.W.Frag} {H : Hp} {a : Addr} {ns : List Int} (h : SqL K H a (ns.map V.int)) : Dp K H (.ref a) (dInts ns) := .lst h (dp_intsA ns)
end Rz

namespace Rz
open PySem PySem.Spec PyProof.Rows L2
/-! ### the class's own special methods -/
section
variable {X : Cx} {k : Nat} {f C a dx : Addr} {fs : List (Str × V)} {fd : FuncData} {ps : List Str} {sp : Sp} {pins : List (Addr × Obj)} {σ : L2.St} {H : Hp} {s : Shared}
/-- the instance as the library's rules want it -/
theorem inst_at (I : Inv X pins σ H s) (e : H a = some (.ins C dx fs)) : ∃ od, PySem.W.InstAt s.heap a (PySem.W.instObj C dx) C (some od) := by
  obtain ⟨mA, O, _⟩ := ins_get I.hok e
  obtain ⟨od, J, _⟩ := O.look
  exact ⟨od, J⟩
/-- the def called somewhere below the running body, nothing leaves it -/
theorem run_below {Q : VK} {us : List Value} {vs : List V} {A : Around} {E' : Value → Shared → Prop} (F : FnOk X.prog X.w X.K X.mg X.base (L2.CX X.prog X.w) k f fd ps sp) (hr : Room k A) (hfr : A.frames = X.A.frames) (hb : Binds X.K fd ps [])
    (I : Inv X pins σ H s) (r : Vals vs us) (h : sp vs H Q E0) : wpAny (model X.prog X.w) A (call (.ref f) us) (EP X pins σ Q) E' s := by
  have z := run_X (E := EN) (X := X.nox) (A := A) (pins := pins) (σ := σ) (Q := Q) F hr hfr hb .nil (atN (X := X.nox) σ) (I.wish _) r (by rw [List.append_nil]; exact h)
  refine wpAny_call (codeAny_mono z fun q s' hq => ?_)
  match q, hq with
  | .error er, hq => exact hq.elim
  | .ok (.ret u), hq =>
    obtain ⟨v, H', J, rv, q⟩ := hq
    exact ⟨v, H', J.unwish, rv, q⟩
  | .ok .next, hq => exact hq.elim
  | .ok .brk, hq => exact hq.elim
  | .ok .cont, hq => exact hq.elim
/-- str(x) by the own __str__ -/
theorem call_strO (M : Meth X.K C "__str__" f) (F : FnOk X.prog X.w X.K X.mg X.base (L2.CX X.prog X.w) k f fd ps sp) (hr : Room (k + 2) X.A) (hb : Binds X.K fd ps []) :
    CallR X (.type "str") (fun xs H Q => ∃ a dx fs, xs = [.ref a] ∧ H a = some (.ins C dx fs) ∧ sp [.ref a] H (fun v H' => (∃ z, v = .str z) ∧ Q v H') E0) := by
  intro pins s σ H xs us Q I r h
  obtain ⟨a, dx, fs, rfl, ea, hq⟩ := h
  obtain ⟨u, rfl, ru⟩ := vals1 r
  obtain rfl : u = Value.ref a := ru
  obtain ⟨od, J⟩ := inst_at I ea
  refine PySem.W.kso_call hr.in1.in1.units0 I.kIn J M.at_ M.fn (wpAny_mono (run_below (vs := [.ref a]) F hr.in1.in1 rfl hb I (.cons rfl .nil) hq) (fun v s' hv => ?_) fun _ _ z => z)
  obtain ⟨x, H', J', rx, ⟨z, rfl⟩, q⟩ := hv
  obtain ⟨t, rfl⟩ := rx
  show EP X pins σ Q _ _
  exact ⟨.str z, H', J', ⟨t, rfl⟩, q⟩
end
end Rz

namespace Rz
open PySem PySem.Spec PyProof.Rows L2
open Sem (wp)
/-! ### list(zip(text, list)) -/
theorem zip_nolen : typeLookup (.type "zip") "__len__" = pure Option.none := am_miss_of_fast (by decide +kernel)
theorem zip_nohint : typeLookup (.type "zip") "__length_hint__" = pure Option.none := am_miss_of_fast (by decide +kernel)
section
variable {prog : Program} {w : World} {A : Around} {E : Value → Shared → Prop} {s : Shared} {zz TI TO T i1 i2 L : Addr} {f1 f2 : List Addr} {n1 n2 i n : Nat} {P1 P2 : Nat → Value → Prop} {S1 S2 : Nat → Heap → Prop} {fl : Bool} {oT : Obj}

/-- next of a zip whose tuple is still out -/
theorem zh_item {Q : Value → Shared → Prop} (Z : ZipSep2 zz TI TO i1 i2 f1 f2) (D1 : Draws prog w A i1 f1 n1 P1 S1) (D2 : Draws prog w A i2 f2 n2 P2 S2)
    (gz : IsZipHeld s.heap zz TI TO T fl) (gT : s.heap.get? T = some oT) (gI : IsTupOf2 s.heap TI (.ref i1) (.ref i2)) (t1 : S1 i s.heap) (t2 : S2 i s.heap) (l1 : i < n1) (l2 : i < n2)
    (hQ : ∀ x y h' tk, P1 i x → P2 i y → IsZipHeld h' zz TI TO T true → S1 (i + 1) h' → S2 (i + 1) h' → IsTupOf2 h' s.heap.objs.size x y → h'.objs.size = s.heap.objs.size + 1 →
      (∀ c o, c ≠ zz → c ≠ i1 → c ≠ i2 → s.heap.get? c = some o → h'.get? c = some o) → Q (.ref s.heap.objs.size) { s with heap := h', toks := tk }) :
    wpAny (model prog w) A (Builtin.«zip.__next__» ⟨[.ref zz], []⟩) (fun fin s' => ∃ v, fin = .done (.ret v) ∧ Q v s') E s := by
  obtain ⟨hp, g, d, tk0, os⟩ := s
  show wpAny _ _ (field (.ref zz) 2 >>= _) _ _ _
  refine wpAny_bind (wpAny_field gz rfl (x := .bool false) rfl ?_)
  show wpAny _ _ (field (.ref zz) 3 >>= _) _ _ _
  refine wpAny_bind (wpAny_field gz rfl (x := .ref TI) rfl ?_)
  refine wpAny_bind (wpAny_seqItems gI rfl ?_)
  show wpAny _ _ (Builtin.SmallTypes.ownedTupleIsFree (.ref zz) >>= _) _ _ _
  refine wpAny_bind (wpAny_tupleHeld_zip gz gT fun h1 gz1 s1 => ?_)
  simp only [Bool.false_eq_true, if_false]
  refine wpAny_bind ?_
  rw [← Array.forIn_toList]
  simp only [List.forIn_cons, List.forIn_nil]
  refine wpAny_bind (wpAny_bind (wpAny_holding ?_))
  show wpAny _ _ (Builtin.SmallTypes.nextOf (.ref i1) >>= _) _ _ ⟨h1, g, d, tk0, os⟩
  refine wpAny_bind (D1.item i _ _ _ l1 (D1.over t1 s1 Z.zf1) fun x h2 tk1 px u1 s2 => wpAny_pure (wpAny_pure ?_))
  replace s2 : Heap.SameBut i1 h1 h2 := s2
  refine wpAny_bind (wpAny_bind (wpAny_holding ?_))
  show wpAny _ _ (Builtin.SmallTypes.nextOf (.ref i2) >>= _) _ _ ⟨h2, g, d, tk1, os⟩
  refine wpAny_bind (D2.item i _ _ _ l2 (D2.over (D2.over t2 s1 Z.zf2) s2 Z.sep1_2) fun y h3 tk2 py u2 s3 => wpAny_pure (wpAny_pure (wpAny_pure ?_)))
  replace s3 : Heap.SameBut i2 h2 h3 := s3
  show wpAny _ _ (newTuple [x, y] >>= _) _ _ ⟨h3, g, d, tk2, os⟩
  refine wpAny_bind (wpAny_newTuple ?_)
  have size3 : h3.objs.size = hp.objs.size := by rw [s3.1, s2.1, s1.1]
  have gz3 : IsZipHeld h3 zz TI TO T true := s3.extBut _ _ Z.zi2 (s2.extBut _ _ Z.zi1 gz1)
  have kk : ∀ c o, c ≠ zz → c ≠ i1 → c ≠ i2 → hp.get? c = some o → h3.get? c = some o := fun c o c1 c2 c3 e => s3.extBut _ _ c3 (s2.extBut _ _ c2 (s1.extBut _ _ c1 e))
  refine wpAny_pure ⟨_, rfl, ?_⟩
  show Q (.ref h3.objs.size) ⟨h3.push { cls := .type "tuple", data := .seq #[x, y] }, g, d, tk2, os⟩
  have new : IsTupOf2 (h3.push { cls := .type "tuple", data := .seq #[x, y] }) h3.objs.size x y := Heap.get?_push_size _ rfl
  have size4 : (h3.push { cls := .type "tuple", data := .seq #[x, y] }).objs.size = h3.objs.size + 1 := Heap.size_push ..
  rw [size3] at new size4 ⊢
  exact hQ x y _ tk2 px py (Heap.get?_push_of_some _ gz3) (D1.frame _ _ _ (D1.over u1 s3 Z.sep2_1) fun b _ o e => Heap.get?_push_of_some _ e) (D2.frame _ _ _ u2 fun b _ o e => Heap.get?_push_of_some _ e) new size4 fun c o c1 c2 c3 e => Heap.get?_push_of_some _ (kk c o c1 c2 c3 e)

theorem zh_end {Q : Fin → Shared → Prop} (Z : ZipSep2 zz TI TO i1 i2 f1 f2) (D1 : Draws prog w A i1 f1 n1 P1 S1) (D2 : Draws prog w A i2 f2 n2 P2 S2)
    (gz : IsZipHeld s.heap zz TI TO T fl) (gT : s.heap.get? T = some oT) (gI : IsTupOf2 s.heap TI (.ref i1) (.ref i2)) (t1 : S1 i s.heap) (t2 : S2 i s.heap) (hn1 : i = n1) 
    (hE : ∀ h' tk e, (∀ c o, c ≠ zz → c ≠ i1 → c ≠ i2 → s.heap.get? c = some o → h'.get? c = some o) → (∃ o, h'.get? e = some o ∧ o.cls = .type "StopIteration") → E (.ref e) { s with heap := h', toks := tk }) :
    wpAny (model prog w) A (Builtin.«zip.__next__» ⟨[.ref zz], []⟩) Q E s := by
  obtain ⟨hp, g, d, tk0, os⟩ := s
  show wpAny _ _ (field (.ref zz) 2 >>= _) _ _ _
  refine wpAny_bind (wpAny_field gz rfl (x := .bool false) rfl ?_)
  show wpAny _ _ (field (.ref zz) 3 >>= _) _ _ _
  refine wpAny_bind (wpAny_field gz rfl (x := .ref TI) rfl ?_)
  refine wpAny_bind (wpAny_seqItems gI rfl ?_)
  show wpAny _ _ (Builtin.SmallTypes.ownedTupleIsFree (.ref zz) >>= _) _ _ _
  refine wpAny_bind (wpAny_tupleHeld_zip gz gT fun h1 gz1 s1 => ?_)
  simp only [Bool.false_eq_true, if_false]
  refine wpAny_bind ?_
  rw [← Array.forIn_toList]
  simp only [List.forIn_cons, List.forIn_nil]
  refine wpAny_bind (wpAny_bind (wpAny_holding ?_))
  show wpAny _ _ (Builtin.SmallTypes.nextOf (.ref i1) >>= _) _ _ ⟨h1, g, d, tk0, os⟩
  subst hn1
  refine wpAny_bind (D1.done ⟨h1, g, d, tk0, os⟩ _ _ (D1.over t1 s1 Z.zf1) fun q e hq he => ?_)
  exact hE q tk0 e (fun c o c1 c2 _ x => hq _ _ c2 (s1.extBut _ _ c1 x)) he

/-- such a zip while a list at L is filled from it -/
def ZS (zz TI TO i1 i2 L : Addr) (S1 S2 : Nat → Heap → Prop) (i : Nat) (h : Heap) : Prop := IsTupOf2 h TI (.ref i1) (.ref i2) ∧ S1 i h ∧ S2 i h ∧
  ((IsZip h zz TI TO .none ∧ ∃ a b, IsTupOf2 h TO a b) ∨ ∃ T f o, IsZipHeld h zz TI TO T f ∧ h.get? T = some o ∧ T ≠ zz ∧ T ≠ i1 ∧ T ≠ i2 ∧ T ≠ L)
theorem zs_item {Q : Option Value → Shared → Prop} (Z : ZipSep2 zz TI TO i1 i2 f1 f2) (D1 : Draws prog w A.in1 i1 f1 n1 P1 S1) (D2 : Draws prog w A.in1 i2 f2 n2 P2 S2)
    (st : ZS zz TI TO i1 i2 L S1 S2 i s.heap) (hL : L < s.heap.objs.size) (l1 : i < n1) (l2 : i < n2)
    (hQ : ∀ x y h' tk, P1 i x → P2 i y → ZS zz TI TO i1 i2 L S1 S2 (i + 1) h' → IsTupOf2 h' s.heap.objs.size x y → h'.objs.size = s.heap.objs.size + 1 →
      (∀ c o, c ≠ zz → c ≠ TO → c ≠ i1 → c ≠ i2 → s.heap.get? c = some o → h'.get? c = some o) → Q (some (.ref s.heap.objs.size)) { s with heap := h', toks := tk }) :
    wpAny (model prog w) A (pyNext (.ref zz)) Q E s := by
  obtain ⟨gI, t1, t2, st⟩ := st
  have o1 : s.heap.objs.size ≠ i1 := let ⟨_, e⟩ := D1.live _ _ t1; Nat.ne_of_gt (Heap.lt_size e)
  have o2 : s.heap.objs.size ≠ i2 := let ⟨_, e⟩ := D2.live _ _ t2; Nat.ne_of_gt (Heap.lt_size e)
  rcases st with ⟨gz, a, b, gO⟩ | ⟨T, f, o, gz, gT, r1, r2, r3, r4⟩
  · refine wpAny_pyNext_zipD2_item Z D1 D2 gz gI gO t1 t2 l1 l2 fun x y h' tk px py b1 b2 u1 u2 new sz kk => ?_
    exact hQ x y h' tk px py ⟨kk _ _ Z.TIz Z.TITO Z.TIi1 Z.TIi2 gI, u1, u2, .inr ⟨_, false, _, b1, new, Nat.ne_of_gt (Heap.lt_size gz), o1, o2, Nat.ne_of_gt hL⟩⟩ new sz kk
  · have ty : s.TypeIs (.ref zz) "zip" := ⟨_, gz, rfl⟩
    unfold pyNext
    exact wpAny_bind (wpAny_attempt (wpAny_callSpecial?_slot (name := Str.ofString "__next__") ty F.slot_zip_next (wpAny_call_entry F.slot_zip_next ty F.entry_zip_next
      (zh_item Z D1 D2 gz gT gI t1 t2 l1 l2 fun x y h' tk px py b1 u1 u2 new sz kk => wpAny_pure
        (hQ x y h' tk px py ⟨kk _ _ Z.TIz Z.TIi1 Z.TIi2 gI, u1, u2, .inr ⟨T, true, o, b1, kk _ _ r1 r2 r3 gT, r1, r2, r3, r4⟩⟩ new sz fun c o c1 _ c3 c4 e => kk c o c1 c3 c4 e)) (F.args_zip_next_1 _))))
theorem zs_end {Q : Option Value → Shared → Prop} (Z : ZipSep2 zz TI TO i1 i2 f1 f2) (D1 : Draws prog w A.in1 i1 f1 n1 P1 S1) (D2 : Draws prog w A.in1 i2 f2 n2 P2 S2)
    (st : ZS zz TI TO i1 i2 L S1 S2 i s.heap) (hn : i = n1) (h12 : n1 ≤ n2)
    (hQ : ∀ h' tk, (∀ c o, c ≠ zz → c ≠ TO → c ≠ i1 → c ≠ i2 → s.heap.get? c = some o → h'.get? c = some o) → Q Option.none { s with heap := h', toks := tk }) : wpAny (model prog w) A (pyNext (.ref zz)) Q E s := by
  obtain ⟨gI, t1, t2, st⟩ := st
  rcases st with ⟨gz, a, b, gO⟩ | ⟨T, f, o, gz, gT, r1, r2, r3, r4⟩
  · exact wpAny_pyNext_zipD2_end Z D1 D2 gz gI gO t1 t2 (by omega) (by omega) (.inl hn) fun h' tk kk => hQ h' tk kk
  · have ty : s.TypeIs (.ref zz) "zip" := ⟨_, gz, rfl⟩
    unfold pyNext
    refine wpAny_bind (wpAny_attempt (wpAny_callSpecial?_slot (name := Str.ofString "__next__") ty F.slot_zip_next (wpAny_call_entry F.slot_zip_next ty F.entry_zip_next
      (zh_end Z D1 D2 gz gT gI t1 t2 hn fun h' tk e kk he => ?_) (F.args_zip_next_1 _))))
    obtain ⟨oe, h1, h2⟩ := he
    refine wpAny_bind (wpAny_isInstance (T := "StopIteration") (b := true) ⟨oe, h1, h2⟩ isSubtype_stop ?_)
    exact wpAny_pure (hQ _ _ fun c o c1 _ c3 c4 e => kk c o c1 c3 c4 e)
theorem ZS.keep {h h' : Heap} (st : ZS zz TI TO i1 i2 L S1 S2 i h) (D1 : Draws prog w A i1 f1 n1 P1 S1) (D2 : Draws prog w A i2 f2 n2 P2 S2) (kk : ∀ b o, b ≠ L → h.get? b = some o → h'.get? b = some o) (n0 : zz ≠ L) (nI : TI ≠ L) (nO : TO ≠ L) (nf1 : L ∉ f1) (nf2 : L ∉ f2) :
    ZS zz TI TO i1 i2 L S1 S2 i h' := by
  obtain ⟨gI, t1, t2, st⟩ := st
  refine ⟨kk _ _ nI gI, D1.frame _ _ _ t1 fun b hb o e => kk b o (fun z => nf1 (z ▸ hb)) e, D2.frame _ _ _ t2 fun b hb o e => kk b o (fun z => nf2 (z ▸ hb)) e, ?_⟩
  rcases st with ⟨gz, a, b, gO⟩ | ⟨T, f, o, gz, gT, r1, r2, r3, r4⟩
  · exact .inl ⟨kk _ _ n0 gz, a, b, kk _ _ nO gO⟩
  · exact .inr ⟨T, f, o, kk _ _ n0 gz, kk _ _ r4 gT, r1, r2, r3, r4⟩

/-- the tuples that came -/
structure ZG (P1 P2 : Nat → Value → Prop) (lo : Addr) (h : Heap) (as : List Addr) : Prop where
  rise : as.Pairwise (· < ·)
  over : ∀ a ∈ as, lo < a
  pairs : ∀ (j : Nat) (a : Addr), as[j]? = some a → ∃ x y, P1 j x ∧ P2 j y ∧ IsTupOf2 h a x y
theorem zg_loop {R : Result → Shared → Prop} {base : Heap} (Z : ZipSep2 zz TI TO i1 i2 f1 f2) (D1 : Draws prog w A.in1.in1 i1 f1 n1 P1 S1) (D2 : Draws prog w A.in1.in1 i2 f2 n2 P2 S2) (h12 : n1 ≤ n2)
    (n0 : zz < L) (nI : TI < L) (nO : TO < L) (m1 : i1 < L) (m2 : i2 < L) (nf1 : L ∉ f1) (nf2 : L ∉ f2) (hn : n1 ≤ sizeLine) (res : Value)
    (hR : ∀ h' tk acc c as, (∀ b o, b ≠ L → b ≠ zz → b ≠ TO → b ≠ i1 → b ≠ i2 → base.get? b = some o → h'.get? b = some o) → h'.get? L = some { cls := .type "list", dict := Option.none, data := .seq acc c, slots := #[] } → as.length = n1 → ZG P1 P2 L h' as →
      acc.toList = as.map Value.ref → R (.ok (.ret res)) { s with heap := h', toks := tk }) :
    ∀ (k i : Nat) (h : Heap) (tk c : Nat) (acc : Array Value) (as : List Addr), n1 - i = k → i ≤ n1 → ZS zz TI TO i1 i2 L S1 S2 i h → (∀ b o, b ≠ L → b ≠ zz → b ≠ TO → b ≠ i1 → b ≠ i2 → base.get? b = some o → h.get? b = some o) →
      h.get? L = some { cls := .type "list", dict := Option.none, data := .seq acc c, slots := #[] } → acc.toList = as.map Value.ref → as.length = i → ZG P1 P2 L h as →
      codeAny (model prog w) A (.builtin "list.extend.loop" ⟨[.ref L, .ref zz, res], []⟩) R { s with heap := h, toks := tk } := by
  intro k
  induction k with
  | zero =>
    intro i h tk c acc as hk hi st keep hL hacc hal hG
    refine codeAny_builtin F.entry_extend_loop ?_
    rw [Around.under_plainId F.plain_extend_loop _]
    show wpAny _ A.in1 (pyNext (.ref zz) >>= _) _ _ _
    refine wpAny_bind (zs_end (s := { s with heap := h, toks := tk }) Z D1 D2 st (by omega) h12 fun h' tk' kk => ?_)
    refine wpAny_pure (hR h' tk' acc c as (fun b o h1 h2 h3 h4 h5 e => kk b o h2 h3 h4 h5 (keep b o h1 h2 h3 h4 h5 e)) (kk L _ (Nat.ne_of_gt n0) (Nat.ne_of_gt nO) (Nat.ne_of_gt m1) (Nat.ne_of_gt m2) hL) (by omega) ⟨hG.rise, hG.over, fun j a hj => ?_⟩ hacc)
    obtain ⟨x, y, px, py, e⟩ := hG.pairs j a hj
    have hb := hG.over a (List.mem_of_getElem? hj)
    exact ⟨x, y, px, py, kk a _ (Nat.ne_of_gt (Nat.lt_trans n0 hb)) (Nat.ne_of_gt (Nat.lt_trans nO hb)) (Nat.ne_of_gt (Nat.lt_trans m1 hb)) (Nat.ne_of_gt (Nat.lt_trans m2 hb)) e⟩
  | succ k ih =>
    intro i h tk c acc as hk hi st keep hL hacc hal hG
    have hlt : i < n1 := by omega
    have size : acc.size = i := by rw [← Array.length_toList, hacc, List.length_map, hal]
    have lL : L < h.objs.size := Heap.lt_size hL
    refine codeAny_builtin F.entry_extend_loop ?_
    rw [Around.under_plainId F.plain_extend_loop _]
    show wpAny _ A.in1 (pyNext (.ref zz) >>= _) _ _ _
    refine wpAny_bind (zs_item (s := { s with heap := h, toks := tk }) Z D1 D2 st lL hlt (by omega) fun x y h' tk' px py st' new sz kk => ?_)
    dsimp only at new sz kk ⊢
    have hL' := kk L _ (Nat.ne_of_gt n0) (Nat.ne_of_gt nO) (Nat.ne_of_gt m1) (Nat.ne_of_gt m2) hL
    have up : ∀ b o, b ≠ L → h'.get? b = some o → (h'.update L (Obj.mapSeq (·.push (Value.ref h.objs.size)))).get? b = some o := fun b o hb e => (Heap.get?_update_other _ _ (Ne.symm hb)).trans e
    show wpAny _ A.in1 (updateSeq L (·.push (Value.ref h.objs.size)) >>= _) _ _ _
    refine wpAny_bind ?_
    refine wpAny_updateSeq hL' rfl (wpAny_pure ⟨plainId_quiet F.plain_extend_loop _, ih (i + 1) _ tk' _ (acc.push (Value.ref h.objs.size)) (as ++ [h.objs.size]) (by omega) hlt (st'.keep D1 D2 up (Nat.ne_of_lt n0) (Nat.ne_of_lt nI) (Nat.ne_of_lt nO) nf1 nf2)
      (fun b o h1 h2 h3 h4 h5 e => up b o h1 (kk b o h2 h3 h4 h5 (keep b o h1 h2 h3 h4 h5 e))) (Heap.get?_update_self _ hL' rfl) (by rw [Array.toList_push, hacc, List.map_append]; rfl) (by rw [List.length_append, hal]; rfl) ⟨?_, ?_, ?_⟩⟩) (by rw [size]; omega) (by show (acc.push (Value.ref h.objs.size)).size ≤ sizeLine + 1; rw [Array.size_push, size]; omega)
    · refine List.pairwise_append.mpr ⟨hG.rise, List.pairwise_singleton _ _, fun a ha b hb => ?_⟩
      obtain ⟨j, hj⟩ := List.mem_iff_getElem?.mp ha
      obtain ⟨_, _, _, _, e⟩ := hG.pairs j a hj
      rw [List.mem_singleton.mp hb]
      exact Heap.lt_size e
    · intro a ha
      rcases List.mem_append.mp ha with ha | ha
      · exact hG.over a ha
      · rw [List.mem_singleton.mp ha]; exact lL
    · intro j b hj
      rcases Nat.lt_trichotomy j as.length with h1 | h1 | h1
      · rw [List.getElem?_append_left h1] at hj
        obtain ⟨x', y', q1, q2, q3⟩ := hG.pairs j b hj
        have hb := hG.over b (List.mem_of_getElem? hj)
        exact ⟨x', y', q1, q2, up b _ (Nat.ne_of_gt hb) (kk b _ (Nat.ne_of_gt (Nat.lt_trans n0 hb)) (Nat.ne_of_gt (Nat.lt_trans nO hb)) (Nat.ne_of_gt (Nat.lt_trans m1 hb)) (Nat.ne_of_gt (Nat.lt_trans m2 hb)) q3)⟩
      · subst h1
        have hb : h.objs.size = b := by simpa using hj
        subst hb
        exact ⟨x, y, by rw [hal]; exact px, by rw [hal]; exact py, up _ _ (Nat.ne_of_gt lL) new⟩
      · rw [List.getElem?_eq_none (by rw [List.length_append, List.length_singleton]; omega)] at hj
        cases hj
theorem zg_call {Q : Value → Shared → Prop} (Z : ZipSep2 zz TI TO i1 i2 f1 f2) (D1 : Draws prog w A.in1.in1.in1 i1 f1 n1 P1 S1) (D2 : Draws prog w A.in1.in1.in1 i2 f2 n2 P2 S2) (h12 : n1 ≤ n2) (hn : n1 ≤ sizeLine)
    (gz : IsZip s.heap zz TI TO .none) (gI : IsTupOf2 s.heap TI (.ref i1) (.ref i2)) {a b : Value} (gO : IsTupOf2 s.heap TO a b) (t1 : S1 0 s.heap) (t2 : S2 0 s.heap) (nf1 : ∀ c ∈ f1, c < s.heap.objs.size) (nf2 : ∀ c ∈ f2, c < s.heap.objs.size)
    (hQ : ∀ h' tk acc c as, (∀ b o, b ≠ zz → b ≠ TO → b ≠ i1 → b ≠ i2 → s.heap.get? b = some o → h'.get? b = some o) → h'.get? s.heap.objs.size = some { cls := .type "list", dict := Option.none, data := .seq acc c, slots := #[] } → as.length = n1 → ZG P1 P2 s.heap.objs.size h' as →
      acc.toList = as.map Value.ref → Q (.ref s.heap.objs.size) { s with heap := h', toks := tk }) :
    wpAny (model prog w) A (call (.type "list") [.ref zz]) Q E s := by
  have q1 : s.heap.objs.size ∉ f1 := fun z => Nat.lt_irrefl _ (nf1 _ z)
  have q2 : s.heap.objs.size ∉ f2 := fun z => Nat.lt_irrefl _ (nf2 _ z)
  have lz := Heap.lt_size gz
  have lI := Heap.lt_size gI
  have lO := Heap.lt_size gO
  have m1 := nf1 _ Z.mem1
  have m2 := nf2 _ Z.mem2
  refine callType_codes (Q₁ := fun obj s₁ => obj = .ref s.heap.objs.size ∧ s₁ = { s with heap := s.heap.push { cls := .type "list", data := .seq #[] } }) F.called_list (F.typeCall_list_1 (.ref zz)) F.entry_list_init
    (code_list_new _ ⟨rfl, rfl⟩) fun obj s₁ h₁ => ?_
  obtain ⟨rfl, rfl⟩ := h₁
  have hS : (s.heap.push { cls := .type "list", data := .seq #[] }).get? s.heap.objs.size = some { cls := .type "list", data := .seq #[] } := Heap.get?_push_size _ rfl
  refine ⟨⟨_, hS, rfl⟩, F.args_list_init_2 _ (.ref zz), ?_⟩
  generalize hL : s.heap.objs.size = L at *
  have st0 : ZS zz TI TO i1 i2 L S1 S2 0 (s.heap.push { cls := .type "list", data := .seq #[] }) := ⟨Heap.get?_push_of_some _ gI, D1.frame _ _ _ t1 fun b _ o e => Heap.get?_push_of_some _ e, D2.frame _ _ _ t2 fun b _ o e => Heap.get?_push_of_some _ e, .inl ⟨Heap.get?_push_of_some _ gz, a, b, Heap.get?_push_of_some _ gO⟩⟩
  have k0 : ∀ b o, s.heap.get? b = some o → (s.heap.push { cls := .type "list", data := .seq #[] }).get? b = some o := fun b o e => Heap.get?_push_of_some _ e
  generalize (s.heap.push { cls := .type "list", data := .seq #[] }) = h0 at hS st0 k0
  show wpAny _ A.in1.in1 (do let old ← Builtin.List.listItems (.ref L); Builtin.List.listUpdate (.ref L) (fun _ => #[]); letGo old.toList.reverse; Builtin.List.listExtendWith (.ref L) (.ref zz) .none) _ _ _
  refine wpAny_bind ?_
  unfold Builtin.List.listItems
  refine wpAny_bind (wpAny_seqItems hS rfl (wpAny_pure ?_))
  show wpAny _ A.in1.in1 (updateSeq L (fun _ => #[]) >>= fun _ => letGo (#[] : Array Value).toList.reverse >>= fun _ => Builtin.List.listExtendWith (.ref L) (.ref zz) .none) _ _ _
  refine wpAny_bind (wpAny_updateSeq hS rfl ?_)
  have g2 := Heap.get?_update_self (Obj.mapSeq (fun _ => (#[] : Array Value))) hS rfl
  have kk2 : ∀ b o, b ≠ L → h0.get? b = some o → (h0.update L (Obj.mapSeq (fun _ => (#[] : Array Value)))).get? b = some o := fun b o hb e => (Heap.get?_update_other _ _ (Ne.symm hb)).trans e
  have st2 := st0.keep D1 D2 kk2 (Nat.ne_of_lt lz) (Nat.ne_of_lt lI) (Nat.ne_of_lt lO) q1 q2
  refine wpAny_bind (wpAny_letGo ?_)
  dsimp only at g2 kk2 st2 ⊢
  generalize (h0.update L (Obj.mapSeq (fun _ => (#[] : Array Value)))) = hh2 at g2 kk2 st2 ⊢
  have gz2 : IsZip hh2 zz TI TO .none := kk2 _ _ (Nat.ne_of_lt lz) (k0 _ _ gz)
  have ty2 : Shared.TypeIs { s with heap := hh2 } (.ref zz) "zip" := ⟨_, gz2, rfl⟩
  unfold Builtin.List.listExtendWith
  refine wpAny_bind (wpAny_typeOf ty2 ?_)
  have c1 : Builtin.List.listSameRef (.ref L) (.ref zz) = false := by simp [Builtin.List.listSameRef, Nat.ne_of_gt lz]
  have c2 : (Value.type "zip" == Value.type "list") = false := by decide
  have c3 : (Value.type "zip" == Value.type "tuple") = false := by decide
  simp only [c1, c2, c3, Bool.or_false, Bool.false_eq_true, if_false]
  refine wpAny_bind (wpAny_pyIter_zip gz2 ?_)
  refine wpAny_bind (wpAny_holding ?_)
  unfold Builtin.List.listLengthHint
  refine wpAny_bind (wpAny_specialOf ty2 zip_nolen ?_)
  show wpAny _ A.in1.in1 (specialOf (Value.ref zz) (Str.ofString "__length_hint__") >>= _) _ _ _
  refine wpAny_bind (wpAny_specialOf ty2 zip_nohint ?_)
  refine wpAny_pure ?_
  show wpAny _ A.in1.in1 (rule "list.extend.makes-room" >>= fun _ => Builtin.List.listTouch (.ref L) >>= fun _ =>
    again (.builtin "list.extend.loop" ⟨[.ref L, .ref zz, .none], []⟩)) _ _ _
  refine wpAny_bind (wpAny_rule ?_)
  refine wpAny_bind ?_
  show wpAny _ A.in1.in1 (updateSeq L (·.push .none) >>= fun _ => updateSeq L (·.pop)) _ _ _
  refine wpAny_bind (wpAny_updateSeq g2 rfl ?_)
  have g3 := Heap.get?_update_self (Obj.mapSeq (·.push Value.none)) g2 rfl
  refine wpAny_updateSeq (hz := by seq_fits) g3 rfl ?_
  have g4 := Heap.get?_update_self (Obj.mapSeq (·.pop)) g3 rfl
  have kk4 : ∀ b o, b ≠ L → hh2.get? b = some o → ((hh2.update L (Obj.mapSeq (·.push Value.none))).update L (Obj.mapSeq (·.pop))).get? b = some o :=
    fun b o hb e => (Heap.get?_update_other _ _ (Ne.symm hb)).trans ((Heap.get?_update_other _ _ (Ne.symm hb)).trans e)
  have lb : ∀ b o, s.heap.get? b = some o → b ≠ L := fun b o e => by rw [← hL]; exact Nat.ne_of_lt (Heap.lt_size e)
  refine wpAny_pure ⟨plainId_quiet F.plain_extend_loop _, ?_⟩
  refine zg_loop (s := { s with heap := _ }) (base := s.heap) Z D1 D2 h12 lz lI lO m1 m2 q1 q2 hn .none (fun h' tk acc c as kk hl hal hG hacc => ⟨rfl, hQ h' tk acc c as (fun b o h2 h3 h4 h5 e => kk b o (lb b o e) h2 h3 h4 h5 e) hl hal hG hacc⟩)
    n1 0 _ _ _ #[] [] (by omega) (Nat.zero_le _) (st2.keep D1 D2 kk4 (Nat.ne_of_lt lz) (Nat.ne_of_lt lI) (Nat.ne_of_lt lO) q1 q2) (fun b o h1 _ _ _ _ e => kk4 b o h1 (kk2 b o h1 (k0 b o e))) g4 rfl rfl ⟨List.Pairwise.nil, (fun _ ha => nomatch ha), (fun j a hj => by simp at hj)⟩
end
section
variable {X : Cx} {e e2 : Expr} {ta : TA} {p p2 cpos pos : Pos}
theorem vals_back : ∀ {xs : List V} {us : List Value} {i : Nat} {u : Value}, Paired RelV xs us → us[i]? = some u → ∃ x, xs[i]? = some x ∧ RelV x u
  | _, _, i, u, .nil, h => by cases h
  | _, _, 0, u, .cons r t, h => by
    have e := Option.some.inj h
    subst e
    exact ⟨_, rfl, r⟩
  | _, _, i + 1, u, .cons r t, h => vals_back (i := i) t (by simpa using h)
theorem sep5 (n l : Nat) (h : l < n) : ZipSep2 (n + 4) (n + 2) (n + 3) n (n + 1) [n] [n + 1, l] := by
  have ne : ∀ a b : Nat, a < b → ¬ (a : Addr) = b := fun a b h z => Nat.ne_of_lt h z
  have en : ∀ a b : Nat, b < a → ¬ (a : Addr) = b := fun a b h z => Nat.ne_of_gt h z
  have no1 : ∀ a b : Nat, (a < b ∨ b < a) → (a : Addr) ∉ [(b : Addr)] := fun a b h z => by
    have e : a = b := List.mem_singleton.mp z
    omega
  have no2 : ∀ a b c : Nat, (a < b ∨ b < a) → (a < c ∨ c < a) → (a : Addr) ∉ [(b : Addr), (c : Addr)] := fun a b c h1 h2 z => by
    rcases List.mem_cons.mp z with e | e
    · have e : a = b := e
      omega
    · have e : a = c := List.mem_singleton.mp e
      omega
  exact ⟨ne _ _ (by omega), ne _ _ (by omega), ne _ _ (by omega), en _ _ (by omega), List.mem_cons_self, no1 _ _ (by omega), no1 _ _ (by omega), en _ _ (by omega), List.mem_cons_self, no2 _ _ _ (by omega) (by omega), no2 _ _ _ (by omega) (by omega), no2 _ _ _ (by omega) (by omega), no1 _ _ (by omega)⟩
/-- the pairs of the signs of x and of ys -/
def zkv (x : Str) (ys : List V) : List (Key × V) := (x.cps.toList.zip ys).map fun q => (Sum.inr ⟨#[q.1]⟩, q.2)
theorem zkv_len {x : Str} {ys : List V} (h : x.length = ys.length) : (zkv x ys).length = x.length := by
  unfold zkv
  rw [List.length_map, List.length_zip]
  show min x.length ys.length = _
  omega
theorem zkv_at {x : Str} {ys : List V} {j c : Nat} {y : V} (h1 : x.cps[j]? = some c) (h2 : ys[j]? = some y) : (zkv x ys)[j]? = some (Sum.inr ⟨#[c]⟩, y) := by
  unfold zkv
  rw [List.getElem?_map, List.zip_eq_zipWith, List.getElem?_zipWith, Array.getElem?_toList, h1, h2]
  rfl
theorem zip_laid {pins : List (Addr × Obj)} {σ : L2.St} {H : Hp} {s : Shared} {h' : Heap} {tk : Nat} {kvs : List (Key × V)} {acc : Array Value} {c : Nat} {L : Addr} {as : List Addr} (I : Inv X pins σ H s) (hL : s.heap.objs.size ≤ L) (hz : kvs.length ≤ sizeLine)
    (kk : ∀ b o, s.heap.get? b = some o → h'.get? b = some o) (eL : h'.get? L = some { cls := .type "list", dict := none, data := .seq acc c, slots := #[] }) (hl : as.length = kvs.length) (rise : as.Pairwise (· < ·)) (over : ∀ a ∈ as, L < a)
    (prs : ∀ (j : Nat) (a : Addr), as[j]? = some a → ∃ q x y, kvs[j]? = some q ∧ RelV (kV q.1) x ∧ RelV q.2 y ∧ IsTupOf2 h' a x y) (hacc : acc.toList = as.map Value.ref) :
    ∃ H' : Hp, (∀ b o, H b = some o → H' b = some o) ∧ H L = none ∧ (∀ t ∈ as, H t = none) ∧ L ∉ as ∧ H' L = some (.lst (as.map V.ref)) ∧ Paired (fun (t : Addr) (q : Key × V) => H' t = some (.tup [kV q.1, q.2])) as kvs ∧ Inv X pins σ H' { s with heap := h', toks := tk } := by
  have nL : L ∉ as := fun z => Nat.lt_irrefl _ (over _ z)
  have nd : as.Nodup := List.Pairwise.imp (fun {a b} (h : a < b) => Nat.ne_of_lt h) rise
  have newT : ∀ t ∈ as, H t = none := fun t ht => I.hok.fresh (Nat.le_trans hL (Nat.le_of_lt (over t ht)))
  have newL : H L = none := I.hok.fresh hL
  have laid := LiI.putT_at as kvs (upd H L (.lst (as.map V.ref))) hl nd
  have off : ∀ b, b ∉ as → b ≠ L → LiI.putT (upd H L (.lst (as.map V.ref))) as kvs b = H b := fun b q1 q2 => by rw [LiI.putT_off as kvs _ q1, upd_ne q2]
  have low : ∀ b o, s.heap.get? b = some o → b ∉ as ∧ b ≠ L := fun b o e => ⟨fun z => absurd (Heap.lt_size e) (Nat.not_lt.mpr (Nat.le_trans hL (Nat.le_of_lt (over b z)))), fun z => absurd (Heap.lt_size e) (Nat.not_lt.mpr (z ▸ hL))⟩
  have same : ∀ b u, H b = some u → (LiI.putT (upd H L (.lst (as.map V.ref))) as kvs) b = some u := fun b u e => by
    rw [off b (fun z => by rw [newT b z] at e; cases e) (fun z => by rw [z, newL] at e; cases e), e]
  have atL : LiI.putT (upd H L (.lst (as.map V.ref))) as kvs L = some (.lst (as.map V.ref)) := by rw [LiI.putT_off as kvs _ nL, upd_same]
  refine ⟨LiI.putT (upd H L (.lst (as.map V.ref))) as kvs, same, newL, newT, nL, atL, laid, ?_⟩
  refine I.call' (ch := []) rfl ⟨fun b o q _ _ _ => kk b o q, fun b o q _ _ _ => ⟨o.slots, kk b o q⟩, fun b o q n _ => ?_, fun b o q _ => ⟨o, kk b o q⟩, fun b xs q => same b _ q, fun b o u q => same b _ q, fun b ps q => ⟨#[], by rw [same b _ q]; simp⟩⟩ (fun b u q => ?_) I.bare fun b z => by simp at z
  · obtain ⟨z1, z2⟩ := low b o q
    rw [off b z1 z2, n]
  · by_cases hb : b ∈ as
    · obtain ⟨j, pk, e1, e2, e3⟩ := LiI.paired_ix laid hb
      rw [e3] at q
      cases q
      obtain ⟨pq, x, y, g1, g2, g3, g4⟩ := prs j b e1
      rw [e2] at g1
      cases g1
      exact ⟨by show 2 ≤ sizeLine; decide, [x, y], .cons g2 (.cons g3 .nil), ⟨_, g4, rfl, _, rfl⟩⟩
    · by_cases hb2 : b = L
      · rw [hb2] at q ⊢
        rw [atL] at q
        cases q
        refine ⟨by rw [List.length_map, hl]; exact hz, acc.toList, c, by rw [hacc]; exact LiI.vals_refs as, ?_⟩
        rw [Array.toArray_toList]
        exact eL
      · rw [off b hb hb2] at q
        exact (I.hok b u q).stay (fun d v _ y => kk d v y) (fun d y => same d _ y) fun d xs y => same d _ y
def rZipL (K : PySem.W.Frag) : List V → Hp → VK → Prop := fun vs H Q => ∃ (x : Str) (l : Addr) (ys : List V), vs = [.str x, .ref l] ∧ SqL K H l ys ∧ x.length = ys.length ∧ x.length ≤ sizeLine ∧
  ∀ (H' : Hp) (q : Addr) (ts : List Addr), Same H H' → H q = none → (∀ t ∈ ts, H t = none) → q ∉ ts → H' q = some (.lst (ts.map V.ref)) → Paired (fun (t : Addr) (u : Key × V) => H' t = some (.tup [kV u.1, u.2])) ts (zkv x ys) → Q (.ref q) H'
def tLstZ (K : PySem.W.Frag) (ta : TA) : TE := fun σ H Q => ta σ H fun vs H1 => rZipL K vs H1 Q
/-- list(zip(text, list)) -/
theorem pe_listZip (hc : X.calm = true) (ha : PA X [e, e2] ta) (hg : Gl X "list") (hm : X.mg "list" = none) (hv : bootBuiltins "list" = some (.type "list")) (hg2 : Gl X "zip") (hm2 : X.mg "zip" = none)
    (hs : starEach [e, e2] X.env = (false, eval e X.env) :: starEach [e2] X.env := by rfl) (hpl : (backTo cpos (starEach [e2] X.env)).any (·.1) = false := by rfl)
    (na : starEach [.Call (.Name "zip" p2) [e, e2] [] cpos] X.env = (false, eval (.Call (.Name "zip" p2) [e, e2] [] cpos) X.env) :: starEach [] X.env := by rfl) :
    PE X (.Call (.Name "list" p) [.Call (.Name "zip" p2) [e, e2] [] cpos] [] pos) (tLstZ X.K ta) := by
  refine ⟨fun pins s σ H Q I h => ?_⟩
  refine Call_ (ld_blt I hg hm hv ?_)
  refine PyProof.Rows.callWith_type1 (PyProof.Rows.args_cons ?_ na) na rfl
  refine Call_ (ld_blt I hg2 hm2 PyProof.Rows.boot_zip (PyProof.Rows.callWith_type1 (thn (ha.run cpos pins s σ H _ I h) fun us s1 ⟨vs, H1, I1, r1, q1⟩ => ?_) hs hpl))
  obtain ⟨x, l, ys, rfl, hq, hxy, hxz, q⟩ := q1
  cases r1 with
  | cons r rr =>
    cases rr with
    | cons r' rr =>
      cases rr
      obtain ⟨t, rfl⟩ := r
      cases r'
      obtain ⟨its, rv, p1, hiz⟩ := I1.list hq
      have ll : l < s1.heap.objs.size := p1.lt
      have hlen : its.toArray.size = x.cps.size := by
        rw [List.size_toArray, ← rv.length]
        exact hxy.symm
      have D0 : (s1.heap.objs.size : Nat) < s1.heap.objs.size + 1 := Nat.lt_succ_self _
      have hh : X.A.in1.in1.in1.handled = none := I1.ok.hd hc
      refine zip_begins2 (begins_text x t) (begins_list l its.toArray) trivial p1.isList fun h' gz gI gO g1 g2 size kk => PyProof.Rows.args_nil ?_
      have Z := sep5 s1.heap.objs.size l ll
      refine zg_call (n1 := x.cps.size) (n2 := its.toArray.size) (P1 := fun i v => ∃ c u, x.cps[i]? = some c ∧ v = .str ⟨#[c]⟩ u) (P2 := fun i v => its.toArray[i]? = some v) (S1 := fun i h => h.IsStrIter s1.heap.objs.size (strIterType x) x t i) (S2 := fun i h => h.IsListIter (s1.heap.objs.size + 1) l i ∧ h.IsList l its.toArray)
        Z (Draws.text hh _ x t) (Draws.list hh _ l (Nat.ne_of_lt (Nat.lt_succ_of_lt ll)) its.toArray) (by omega) hxz gz gI gO ⟨_, g1, rfl, rfl⟩ ⟨⟨_, g2, rfl, rfl⟩, p1.isList.at fun o e => kk l o e⟩ ?_ ?_ ?_
      · intro c hc
        have e : c = s1.heap.objs.size := by simpa using hc
        subst e
        show _ < h'.objs.size
        omega
      · intro c hc
        show (c : Nat) < h'.objs.size
        have z : c = s1.heap.objs.size + 1 ∨ c = l := by simpa using hc
        have ll' : (l : Nat) < s1.heap.objs.size := ll
        rcases z with z | z
        · rw [size, z]
          exact Nat.add_lt_add_left (by decide) _
        · rw [size, z]
          exact Nat.lt_of_lt_of_le ll' (Nat.le_add_right _ _)
      · intro h2 tk acc c as kp eL hal hG hacc
        dsimp only at kp eL hG ⊢
        have lows : ∀ b o, s1.heap.get? b = some o → h2.get? b = some o := fun b o e => by
          have hb : (b : Nat) < s1.heap.objs.size := Heap.lt_size e
          have far : ∀ k : Nat, b ≠ s1.heap.objs.size + k := fun k z => Nat.ne_of_lt (Nat.lt_of_lt_of_le hb (Nat.le_add_right _ k)) z
          exact kp b o (far 4) (far 3) (far 0) (far 1) (kk b o e)
        obtain ⟨H', k1, k2, k3, k4, k5, k6, J⟩ := zip_laid (tk := tk) (kvs := zkv x ys) I1 (L := h'.objs.size) (by rw [size]; exact Nat.le_add_right _ _) (by rw [zkv_len hxy]; exact hxz) lows eL (by rw [zkv_len hxy]; exact hal) hG.rise hG.over (fun j a hj => by
          obtain ⟨u, v, ⟨cc, uu, e1, e2⟩, e3, e4⟩ := hG.pairs j a hj
          subst e2
          have e3' : its[j]? = some v := by simpa using e3
          obtain ⟨y, hy, ry⟩ := vals_back rv e3'
          exact ⟨_, _, _, zkv_at e1 hy, ⟨_, rfl⟩, ry, e4⟩) hacc
        exact ⟨.ref _, H', J, rfl, q H' _ as k1 k2 k3 k4 k5 k6⟩
end
end Rz

namespace Rz
open PySem PySem.Spec PyProof.Rows L2
/-! ### more of the class's own special methods -/
section
variable {X : Cx} {k : Nat} {f C a dx : Addr} {fs : List (Str × V)} {fd : FuncData} {ps : List Str} {sp : Sp} {pins : List (Addr × Obj)} {σ : L2.St} {H : Hp} {s : Shared}
/-- o += x by the own __iadd__ -/
def tIpO (C : Addr) (sp : Sp) : V → V → Hp → VK → Prop := fun x y H Q => ∃ a dx fs, x = .ref a ∧ H a = some (.ins C dx fs) ∧ sp [x, y] H (fun v H' => (∃ b, v = .ref b) ∧ Q v H') E0
theorem ip_own (M : Meth X.K C "__iadd__" f) (hc : PySem.W.selfFirst X.K C = true) (F : FnOk X.prog X.w X.K X.mg X.base (L2.CX X.prog X.w) k f fd ps sp) (hr : Room k X.A) (hb : Binds X.K fd ps []) : PIp X .Add (tIpO C sp) := by
  intro pins s σ H x y v u Q I r1 r2 h
  obtain ⟨a, dx, fs, rfl, ea, hq⟩ := h
  obtain rfl : v = Value.ref a := r1
  obtain ⟨od, J⟩ := inst_at I ea
  obtain ⟨m0, hF⟩ := I.fr
  refine PySem.W.ksp_inplace hF I.ok.mod.kin J hc M.at_ M.fn (wpAny_mono (run_below (vs := [.ref a, y]) F hr rfl hb I (.cons rfl (.cons r2 .nil)) hq) (fun r s' hv => ?_) fun _ _ z => z)
  obtain ⟨z, H', J', rz, ⟨b, rfl⟩, q⟩ := hv
  obtain rfl : r = Value.ref b := rz
  exact ⟨.ref b, H', J', rfl, q⟩
/-- o[i] = v by the own __setitem__ -/
def tSetO (C : Addr) (sp : Sp) : TSet := fun o i v H Q => ∃ a dx fs, o = .ref a ∧ H a = some (.ins C dx fs) ∧ sp [o, i, v] H (fun _ H' => Q H') E0
theorem set_own (M : Meth X.K C "__setitem__" f) (hn : PySem.W.noSeq X.K C = true) (F : FnOk X.prog X.w X.K X.mg X.base (L2.CX X.prog X.w) k f fd ps sp) (hr : Room k X.A) (hb : Binds X.K fd ps []) : PSet X (tSetO C sp) := by
  intro pins s σ H o i v ov iv u Q I r1 r2 r3 h
  obtain ⟨a, dx, fs, rfl, ea, hq⟩ := h
  obtain rfl : ov = Value.ref a := r1
  obtain ⟨od, J⟩ := inst_at I ea
  obtain ⟨m0, hF⟩ := I.fr
  refine PySem.W.ksp_setItem hF I.ok.mod.kin J hn M.at_ M.fn (wpAny_mono (run_below (vs := [.ref a, i, v]) F hr rfl hb I (.cons rfl (.cons r2 (.cons r3 .nil))) hq) (fun r s' hv => ?_) fun _ _ z => z)
  obtain ⟨z, H', J', rz, q⟩ := hv
  exact ⟨H', J', q⟩
/-- len(x) by the own __len__ -/
def rLenO (C : Addr) (sp : Sp) : List V → Hp → VK → Prop := fun xs H Q => ∃ a dx fs, xs = [.ref a] ∧ H a = some (.ins C dx fs) ∧ sp [.ref a] H (fun v H' => ∃ n : Nat, v = .int n ∧ n < 2 ^ 63 ∧ Q v H') E0
theorem call_lenO (M : Meth X.K C "__len__" f) (F : FnOk X.prog X.w X.K X.mg X.base (L2.CX X.prog X.w) k f fd ps sp) (hr : Room (k + 1) X.A) (hb : Binds X.K fd ps []) : CallR X (.builtin "len") (rLenO C sp) := by
  intro pins s σ H xs us Q I r h
  obtain ⟨a, dx, fs, rfl, ea, hq⟩ := h
  obtain ⟨u, rfl, ru⟩ := vals1 r
  obtain rfl : u = Value.ref a := ru
  obtain ⟨od, J⟩ := inst_at I ea
  obtain ⟨m0, hF⟩ := I.fr
  refine PySem.W.len_K hF I.ok.mod.kin J M.at_ M.fn (wpAny_mono (run_below (vs := [.ref a]) F hr.in1 rfl hb I (.cons rfl .nil) hq) (fun r s' hv => ?_) fun _ _ z => z)
  obtain ⟨z, H', J', rz, n, rfl, hn, q⟩ := hv
  obtain ⟨t, rfl⟩ := rz
  exact ⟨⟨by omega, by omega⟩, .int n, H', J'.tok _, ⟨_, rfl⟩, q⟩
/-- abs(x) by the own __abs__ -/
def rAbsO (C : Addr) (sp : Sp) : List V → Hp → VK → Prop := fun xs H Q => ∃ a dx fs, xs = [.ref a] ∧ H a = some (.ins C dx fs) ∧ sp [.ref a] H Q E0
theorem call_absO (M : Meth X.K C "__abs__" f) (F : FnOk X.prog X.w X.K X.mg X.base (L2.CX X.prog X.w) k f fd ps sp) (hr : Room (k + 1) X.A) (hb : Binds X.K fd ps []) : CallR X (.builtin "abs") (rAbsO C sp) := by
  intro pins s σ H xs us Q I r h
  obtain ⟨a, dx, fs, rfl, ea, hq⟩ := h
  obtain ⟨u, rfl, ru⟩ := vals1 r
  obtain rfl : u = Value.ref a := ru
  obtain ⟨od, J⟩ := inst_at I ea
  refine Calls.call_function_entry kind_abs plain_abs entry_abs (args_abs _) ?_
  unfold Builtin.«abs»
  refine wpAny_bind (m := oneArg "abs" _) (wpAny_pure ?_)
  refine wpAny_bind (m := callSpecial? (.ref a) (Str.ofString "__abs__")) (PySem.W.special_fn I.kIn J M.at_ (beq_iff_eq.mp M.fn) (wpAny_mono (run_below (vs := [.ref a]) F hr.in1 rfl hb I (.cons rfl .nil) hq) (fun r s' hv => ?_) fun _ _ z => z))
  exact wpAny_pure ⟨_, rfl, hv⟩
end
end Rz
namespace Rz
open PySem PySem.Spec PyProof.Rows L2
section
variable {X : Cx} {k : Nat} {fi fn C : Addr} {fdI fdN : FuncData} {psI psN : List Str} {spI spN : Sp} {pins : List (Addr × Obj)} {σ : L2.St} {A1 : Around} {l q it : Addr} {ys : List V} {H0 : Hp} {Rs : Result → Shared → Prop}
/-- a list filled from an iterator over another one -/
theorem lo_loop (hh : A1.handled = none) (hs : SqL X.K H0 l ys) (hz : ys.length ≤ sizeLine) (nq : H0 q = none) (ni : H0 it = none) (ne : it ≠ q)
    (hR : ∀ H s, Inv X pins σ H s → (∀ b o, H0 b = some o → H b = some o) → H q = some (.lst ys) → Rs (.ok (.ret .none)) s) :
    ∀ (j i : Nat) (H : Hp) (s : Shared), ys.length - i = j → i ≤ ys.length → Inv X pins σ H s → (∀ b o, H0 b = some o → H b = some o) → H it = some (ItO l it i) → H q = some (.lst (ys.take i)) →
      codeAny (model X.prog X.w) A1 (.builtin "list.extend.loop" ⟨[.ref q, .ref it, .none], []⟩) Rs s := by
  intro j
  induction j with
  | zero =>
    intro i H s hj hi I S ei eq
    have e0 : i = ys.length := by omega
    subst e0
    obtain ⟨its, rv, pl, _⟩ := I.list (Same.seq (H := H0) (H' := H) (fun b o e => S b o e) hs)
    have ty : s.TypeIs (.ref it) "list_iterator" := ⟨_, itO_get I ei, rfl⟩
    have mu : Mut (H it) := by rw [ei]; exact True.intro
    refine codeAny_builtin PySem.F.entry_extend_loop ?_
    rw [Around.under_plainId PySem.F.plain_extend_loop _]
    show wpAny _ A1.in1 (pyNext (.ref it) >>= _) _ _ s
    refine wpAny_bind ?_
    unfold pyNext
    refine wpAny_bind (wpAny_attempt (wpAny_callSpecial?_slot (name := Str.ofString "__next__") ty slot_listiter_next (wpAny_call_entry slot_listiter_next ty entry_listiter_next
      (GNX.next_end (A := A1.in1) hh (itO_get I ei) pl.isList (by rw [List.getElem?_toArray]; exact rv.none_of (List.getElem?_eq_none (Nat.le_refl _))) fun h1 h' e vs e1 sb kk nn he hv => ?_) (args_listiter_next _))))
    refine wpAny_bind (wpAny_isInstance (T := "StopIteration") (b := true) ⟨_, he, rfl⟩ isSubtype_stop ?_)
    have I2 : Inv X pins σ (upd H it (ItE it ys.length)) { s with heap := h1 } := I.write (x := it) (e := it) (t' := s.toks) mu (.inl rfl) (fun b o nb z => (sb.2 b nb).trans z) ⟨_, e1⟩ (itE_ok e1)
    have I3 : Inv X pins σ (upd H it (ItE it ys.length)) { s with heap := h' } := I2.kept (t' := s.toks) kk
    refine wpAny_pure (wpAny_pure (hR _ _ I3 (fun b o e => ?_) ?_))
    · rw [upd_ne (ne_of_none e ni)]
      exact S b o e
    · rw [upd_ne (Ne.symm ne), eq, List.take_length]
  | succ j ih =>
    intro i H s hj hi I S ei eq
    have hlt : i < ys.length := by omega
    obtain ⟨its, rv, pl, _⟩ := I.list (Same.seq (H := H0) (H' := H) (fun b o e => S b o e) hs)
    obtain ⟨u, hu, ru⟩ := rv.get (List.getElem?_eq_getElem hlt)
    have ty : s.TypeIs (.ref it) "list_iterator" := ⟨_, itO_get I ei, rfl⟩
    have mu : Mut (H it) := by rw [ei]; exact True.intro
    refine codeAny_builtin PySem.F.entry_extend_loop ?_
    rw [Around.under_plainId PySem.F.plain_extend_loop _]
    show wpAny _ A1.in1 (pyNext (.ref it) >>= _) _ _ s
    refine wpAny_bind ?_
    unfold pyNext
    refine wpAny_bind (wpAny_attempt (wpAny_callSpecial?_slot (name := Str.ofString "__next__") ty slot_listiter_next (wpAny_call_entry slot_listiter_next ty entry_listiter_next
      (GNX.next_item (itO_get I ei) pl.isList (by rw [List.getElem?_toArray]; exact hu) fun h' e' sb => wpAny_pure ?_) (args_listiter_next _))))
    have I1 : Inv X pins σ (upd H it (ItO l it (i + 1))) { s with heap := h' } := I.write (x := it) (e := it) (t' := s.toks) mu (.inl rfl) (fun b o nb z => (sb.2 b nb).trans z) ⟨_, e'⟩ (itO_ok e')
    have eq1 : upd H it (ItO l it (i + 1)) q = some (.lst (ys.take i)) := by rw [upd_ne (Ne.symm ne), eq]
    obtain ⟨z, its2, n, r2, hl, e⟩ := I1.lstM eq1
    have ltk : (ys.take i).length = i := by rw [List.length_take]; omega
    have tk1 : ys.take (i + 1) = ys.take i ++ [ys[i]] := by rw [List.take_add_one, List.getElem?_eq_getElem hlt]; rfl
    show wpAny _ A1.in1 (updateSeq q (·.push u) >>= _) _ _ _
    refine wpAny_bind (wpAny_updateSeq e rfl (wpAny_pure ⟨plainId_quiet PySem.F.plain_extend_loop _, ?_⟩) (by rw [List.size_toArray]; omega) (by show (its2.toArray.push u).size ≤ sizeLine + 1; rw [Array.size_push, List.size_toArray]; omega))
    refine ih (i + 1) _ _ (by omega) hlt (I1.lset (its' := its2 ++ [u]) (t' := s.toks) eq1 e (by simp) (r2.append (.cons ru .nil)) (by rw [List.length_append, List.length_singleton]; omega)) (fun b o e => ?_) ?_ ?_
    · rw [upd_ne (ne_of_none e nq), upd_ne (ne_of_none e ni)]
      exact S b o e
    · rw [upd_ne ne, upd_same]
    · rw [upd_same, tk1]
def rListO (K : PySem.W.Frag) (C : Addr) (spI spN : Sp) : List V → Hp → VK → Prop := fun xs H Q => ∃ (a dx : Addr) (fs : List (Str × V)) (l : Addr) (ys : List V) (n : Nat), xs = [.ref a] ∧ H a = some (.ins C dx fs) ∧ SqL K H l ys ∧ n < 2 ^ 63 ∧ Builtin.List.listTooLong n = false ∧
  (∀ (H1 : Hp) (R : VK), Same H H1 → (∀ it, H1 it = none → R (.ref it) (upd H1 it (ItO l it 0))) → spI [.ref a] H1 R E0) ∧ (∀ (H1 : Hp) (R : VK), Same H H1 → R (.int (n : Nat)) H1 → spN [.ref a] H1 R E0) ∧
  ∀ (H' : Hp) (q : Addr), Same H H' → H q = none → H' q = some (.lst ys) → Q (.ref q) H'
theorem hint_own {M : Model} {A : Around} {E : Value → Shared → Prop} {s : Shared} {a : Addr} {Q : Bool → Shared → Prop} {K : PySem.W.Frag} {ox : Obj} {od : Option Obj} (hK : K.In s.heap) (MN : Meth K C "__len__" fn) (J : PySem.W.InstAt s.heap a ox C od)
    (h : wpAny M A (call (.builtin "len") [.ref a]) (fun v s' => ∃ (n : Int) (t : Tok), v = .int n t ∧ Builtin.List.listTooLong n.toNat = false ∧ Q (n != 0) s') (fun _ _ => False) s) : wpAny M A (Builtin.List.listLengthHint (.ref a)) Q E s := by
  unfold Builtin.List.listLengthHint
  refine wpAny_bind (wpAny_bind (J.type.here ((PySem.W.looks_findIn hK MN.at_).here ?_)))
  refine PySem.W.KFB.if_not rfl ?_
  refine PySem.W.KFB.if_so rfl ?_
  refine wpAny_bind (wpAny_rule ?_)
  refine wpAny_bind (wpAny_attempt (wpAny_mono h (fun v s' hv => ?_) fun _ _ z => z.elim))
  obtain ⟨n, t, rfl, hl, q⟩ := hv
  refine wpAny_bind (wpAny_of_eq (a := some n) rfl ?_)
  refine PySem.W.KFB.if_not hl ?_
  exact wpAny_pure q
theorem li_next : typeLookup (.type "list_iterator") "__next__" = pure (some (.builtin "list_iterator.__next__")) := slot_listiter_next.lookup
/-- list(x) by the own __iter__, that yields an iterator over a list, and the own __len__ -/
theorem call_listR (hcalm : X.calm = true) (MI : Meth X.K C "__iter__" fi) (FI : FnOk X.prog X.w X.K X.mg X.base (L2.CX X.prog X.w) k fi fdI psI spI) (bI : Binds X.K fdI psI []) (MN : Meth X.K C "__len__" fn) (FN : FnOk X.prog X.w X.K X.mg X.base (L2.CX X.prog X.w) k fn fdN psN spN) (bN : Binds X.K fdN psN [])
    (hr : Room (k + 3) X.A) : CallR X (.type "list") (rListO X.K C spI spN) := by
  intro pins s σ H xs us Q I r h
  obtain ⟨a, dx, fs, l, ys, n, rfl, ha, hq, hn, hlong, hI, hN, fin⟩ := h
  obtain ⟨u, rfl, ru⟩ := vals1 r
  obtain rfl : u = Value.ref a := ru
  obtain ⟨its0, rv0, pl0, hz⟩ := I.list hq
  have hyz : ys.length ≤ sizeLine := by
    have := rv0.length
    omega
  refine callType_codes (Q₁ := fun obj s₁ => obj = .ref s.heap.objs.size ∧ s₁ = { s with heap := s.heap.push { cls := .type "list", data := .seq #[] } }) PySem.F.called_list (PySem.F.typeCall_list_1 (.ref a)) PySem.F.entry_list_init
    (code_list_new _ ⟨rfl, rfl⟩) fun obj s₁ h₁ => ?_
  obtain ⟨rfl, rfl⟩ := h₁
  have hS : (s.heap.push { cls := .type "list", data := .seq #[] }).get? s.heap.objs.size = some { cls := .type "list", data := .seq #[] } := Heap.get?_push_size _ rfl
  refine ⟨⟨_, hS, rfl⟩, PySem.F.args_list_init_2 _ (.ref a), ?_⟩
  have fr : H s.heap.objs.size = none := I.hok.fresh (Nat.le_refl _)
  have I1 : Inv X pins σ (upd H s.heap.objs.size (.lst [])) { s with heap := s.heap.push { cls := .type "list", data := .seq #[] } } := I.lnew (its := []) (t' := s.toks) .nil (Nat.zero_le _)
  generalize s.heap.objs.size = p at fr I1 hS ⊢
  show wpAny _ X.A.in1.in1 (do let old ← Builtin.List.listItems (.ref p); Builtin.List.listUpdate (.ref p) (fun _ => #[]); letGo old.toList.reverse; Builtin.List.listExtendWith (.ref p) (.ref a) .none) _ _ _
  refine wpAny_bind ?_
  unfold Builtin.List.listItems
  refine wpAny_bind (wpAny_seqItems hS rfl (wpAny_pure ?_))
  show wpAny _ _ (updateSeq p (fun _ => #[]) >>= fun _ => letGo (#[] : Array Value).toList.reverse >>= fun _ => Builtin.List.listExtendWith (.ref p) (.ref a) .none) _ _ _
  refine wpAny_bind (wpAny_updateSeq hS rfl ?_)
  have I2 := I1.lset (f := fun _ => #[]) (its := []) (its' := []) (ys := []) (t' := s.toks) upd_same hS rfl .nil (Nat.zero_le _)
  rw [upd_upd] at I2
  refine wpAny_bind (wpAny_letGo ?_)
  have S2 : Same H (upd H p (.lst [])) := Rz.Same.new (Same.refl H) fr
  have ha2 := S2 _ _ ha
  have hne : p ≠ a := fun z => by
    subst z
    rw [fr] at ha
    cases ha
  obtain ⟨od, J⟩ := inst_at I2 ha2
  obtain ⟨m0, hF⟩ := I2.fr
  unfold Builtin.List.listExtendWith
  refine wpAny_bind (J.type.here ?_)
  have c1 : Builtin.List.listSameRef (.ref p) (.ref a) = false := by simp [Builtin.List.listSameRef, hne]
  have c2 : (Value.ref C == Value.type "list") = false := rfl
  have c3 : (Value.ref C == Value.type "tuple") = false := rfl
  simp only [c1, c2, c3, Bool.or_false, Bool.false_eq_true, if_false]
  refine wpAny_bind (PySem.W.owit_iter hF I2.ok.mod.kin J MI.at_ MI.fn (wpAny_mono (run_below (A := X.A.in1.in1) (vs := [.ref a]) FI (hr.in1.in1.mono (Nat.le_succ k)) rfl bI I2 (.cons rfl .nil)
    (hI _ (fun v H' => ∃ it, v = .ref it ∧ upd H p (.lst []) it = none ∧ H' = upd (upd H p (.lst [])) it (ItO l it 0)) S2 fun it hit => ⟨it, rfl, hit, rfl⟩)) (fun v s' hv => ?_) fun _ _ z => z))
  obtain ⟨x, H3, I3, rx, it, rfl, hit, rfl⟩ := hv
  obtain rfl : v = Value.ref it := rx
  have S3 : Same H (upd (upd H p (.lst [])) it (ItO l it 0)) := Rz.Same.new S2 hit
  have fit : H it = none := by
    cases e : H it with
    | none => rfl
    | some o => rw [S2 _ _ e] at hit; cases hit
  have nip : it ≠ p := fun z => by
    subst z
    rw [upd_same] at hit
    cases hit
  have ty : s'.TypeIs (.ref it) "list_iterator" := ⟨_, itO_get I3 upd_same, rfl⟩
  unfold PySem.W.OwitIt
  refine wpAny_specialOf ty li_next ?_
  refine wpAny_bind (wpAny_holding ?_)
  have ha3 := S3 _ _ ha
  obtain ⟨od3, J3⟩ := inst_at I3 ha3
  obtain ⟨m3, hF3⟩ := I3.fr
  refine hint_own I3.kIn MN J3 (PySem.W.len_K hF3 I3.ok.mod.kin J3 MN.at_ MN.fn (wpAny_mono (run_below (A := X.A.in1.in1.in1) (vs := [.ref a]) (E' := fun _ _ => False) FN hr.in1.in1.in1 rfl bN I3 (.cons rfl .nil)
    (hN _ (fun v H' => v = .int (n : Nat) ∧ H' = upd (upd H p (.lst [])) it (ItO l it 0)) S3 ⟨rfl, rfl⟩)) (fun v s4 hv => ?_) fun _ _ z => z.elim))
  obtain ⟨x, H4, I4, rx, rfl, rfl⟩ := hv
  obtain ⟨t4, rfl⟩ := rx
  refine ⟨⟨by omega, by omega⟩, (n : Nat), s4.toks, rfl, hlong, ?_⟩
  have eq4 : upd (upd H p (.lst [])) it (ItO l it 0) p = some (.lst []) := by rw [upd_ne (Ne.symm nip), upd_same]
  have J4 : Inv X pins σ (upd (upd H p (.lst [])) it (ItO l it 0)) { s4 with toks := s4.toks + 1 } := I4.tok _
  have last : ∀ s5, Inv X pins σ (upd (upd H p (.lst [])) it (ItO l it 0)) s5 → codeAny (model X.prog X.w) X.A.in1 (.builtin "list.extend.loop" ⟨[.ref p, .ref it, .none], []⟩) (wants (fun r s₂ => r = .none ∧ EP X pins σ Q (.ref p) s₂) X.xe) s5 := fun s5 I5 =>
    lo_loop (A1 := X.A.in1) (H0 := H) (Rs := wants (fun r s₂ => r = .none ∧ EP X pins σ Q (.ref p) s₂) X.xe) (I5.ok.hd hcalm) hq hyz fr fit nip (fun H6 s6 I6 S6 e6 => ⟨rfl, .ref p, H6, I6, rfl, fin H6 p (fun b o e => S6 b o e) fr e6⟩) ys.length 0 _ _ (by omega) (Nat.zero_le _) I5 (fun b o e => S3 b o e) upd_same eq4
  obtain ⟨z, its, kk, r3, hl3, e3⟩ := J4.lstM eq4
  cases r3
  refine wpAny_ite_split (fun _ => ?_) (fun _ => wpAny_pure ⟨plainId_quiet PySem.F.plain_extend_loop _, last _ J4⟩)
  refine wpAny_bind (wpAny_rule ?_)
  refine wpAny_bind ?_
  show wpAny _ _ (updateSeq p (·.push .none) >>= fun _ => updateSeq p (·.pop)) _ _ _
  refine wpAny_bind (wpAny_updateSeq e3 rfl ?_)
  have K2 := J4.lset (f := (·.push Value.none)) (its' := [Value.none]) (ys := [.non]) (t' := s4.toks + 1) eq4 e3 (by simp) (.cons rfl .nil) (by rw [List.length_singleton, sizeLine_eq]; decide)
  obtain ⟨z4, its4, k4, r4, hl4, e4⟩ := K2.lstM upd_same
  obtain ⟨u4, rfl, ru4⟩ := r4.one
  refine wpAny_updateSeq e4 rfl ?_ (by show 1 ≤ sizeLine; rw [sizeLine_eq]; decide) (by show 0 ≤ sizeLine + 1; exact Nat.zero_le _)
  refine wpAny_pure ⟨plainId_quiet PySem.F.plain_extend_loop _, last _ ?_⟩
  have K3 := K2.lset (f := (·.pop)) (its := [u4]) (its' := []) (ys := []) (t' := s4.toks + 1) upd_same e4 (by rfl) .nil (Nat.zero_le _)
  rw [upd_upd] at K3
  have back : ∀ (G : Hp), G p = some (.lst []) → upd G p (.lst []) = G := fun G g => by
    funext b
    by_cases hb : b = p
    · rw [hb, upd_same, g]
    · rw [upd_ne hb]
  rw [back _ eq4] at K3
  exact K3
end
end Rz

namespace Rz
open PySem PySem.Spec PyProof.Rows L2
/-! ### max(list of ints, default=d) -/
section
variable {prog : Program} {w : World} {A : Around} {R : Result → Shared → Prop} {I S : Addr} {f1 wr : List Addr} {n : Nat} {P : Nat → Value → Prop} {St : Nat → Heap → Prop} {kw : List (Str × Value)}
theorem mx_name : (toString "max" ++ toString ".loop" : String) = "max.loop" := by decide
theorem mxd_loop (Wk : Walks prog w A.in1 I f1 wr n P St) (bt : Nat → Nat → Bool) (cmp : CmpOf prog w A.in1 .Gt P bt) (sep : S ∉ f1) : ∀ (k j : Nat) (s : Shared) (best : Value) (c : Nat), n - (j + 1) = k → j + 1 ≤ n → St (j + 1) s.heap → P (argBest bt j) best →
    s.heap.get? S = some { cls := .type "list", dict := none, data := .seq #[best, best] c, slots := #[] } →
    (∀ v h' tk, P (argBest bt (n - 1)) v → (∀ b o, b ∉ wr → b ≠ S → s.heap.get? b = some o → h'.get? b = some o) → R (.ok (.ret v)) { s with heap := h', toks := tk }) → codeAny (model prog w) A (.builtin "max.loop" ⟨[.ref I, .none, .ref S], kw⟩) R s := by
  have sepW : S ∉ wr := fun h => sep (Wk.sub _ h)
  intro k
  induction k with
  | zero =>
    intro j s best c hk hj st pb gS fin
    have last : j + 1 = n := by omega
    refine codeAny_builtin F.entry_max_loop ?_
    rw [Around.under_plainId F.plain_max_loop _]
    show wpAny _ A.in1 (seqItems? (.ref S) >>= _) _ _ s
    refine wpAny_bind (wpAny_seqItems gS rfl ?_)
    show wpAny _ A.in1 (tryCatch (pyNext (.ref I)) _ >>= _) _ _ s
    refine wpAny_bind (wpAny_tryCatch (Wk.done s _ _ (last ▸ st) fun h' tk kk => ?_))
    have gS' := kk S _ sepW gS
    show wpAny _ A.in1 (updateSeq S (fun _ => #[]) >>= _) _ _ _
    refine wpAny_bind ?_
    refine wpAny_updateSeq gS' rfl (wpAny_bind (wpAny_letGo (wpAny_pure ?_)))
    refine fin best _ tk (by rw [← last]; exact pb) fun b o nb nS e => (Heap.get?_update_other _ _ (Ne.symm nS)).trans (kk b o nb e)
  | succ k ih =>
    intro j s best c hk hj st pb gS fin
    have lt : j + 1 < n := by omega
    refine codeAny_builtin F.entry_max_loop ?_
    rw [Around.under_plainId F.plain_max_loop _]
    show wpAny _ A.in1 (seqItems? (.ref S) >>= _) _ _ s
    refine wpAny_bind (wpAny_seqItems gS rfl ?_)
    show wpAny _ A.in1 (tryCatch (pyNext (.ref I)) _ >>= _) _ _ s
    refine wpAny_bind (wpAny_tryCatch (Wk.item (j + 1) s _ _ lt st fun v h' tk pv st' kk => ?_))
    have gS' := kk S _ sepW gS
    show wpAny _ A.in1 (tryCatch (holding [v, v] (richCompare .Gt v best >>= _)) _ >>= _) _ _ _
    refine wpAny_bind (wpAny_tryCatch (wpAny_holding (wpAny_bind (cmp (j + 1) (argBest bt j) v best _ _ _ pv pb ?_))))
    refine wpAny_bind (wpAny_holding (wpAny_truthy_bool ?_))
    refine wpAny_bind (wpAny_letGo (wpAny_pure ?_))
    cases better : bt (j + 1) (argBest bt j) with
    | true =>
      simp only [if_true]
      refine wpAny_bind ?_
      refine wpAny_updateSeq gS' rfl (wpAny_bind (wpAny_letGo ?_))
      rw [mx_name]
      refine wpAny_pure ⟨plainId_quiet F.plain_max_loop _, ih (j + 1) _ v _ (by omega) lt (Wk.frame _ _ _ st' fun b hb o e => (Heap.get?_update_other _ _ (fun h : S = b => sep (by rw [h]; exact hb))).trans e) (by simp only [argBest, better, if_true]; exact pv) (Heap.get?_update_self _ gS' rfl)
        fun v' h2 tk2 pv2 kk2 => fin v' h2 tk2 pv2 fun b o nb nS e => kk2 b o nb nS ((Heap.get?_update_other _ _ (Ne.symm nS)).trans (kk b o nb e))⟩
    | false =>
      simp only [Bool.false_eq_true, if_false]
      refine wpAny_bind (wpAny_letGo ?_)
      rw [mx_name]
      refine wpAny_pure ⟨plainId_quiet F.plain_max_loop _, ih (j + 1) _ best c (by omega) lt st' (by simp only [argBest, better, Bool.false_eq_true, if_false]; exact pb) gS'
        fun v' h2 tk2 pv2 kk2 => fin v' h2 tk2 pv2 fun b o nb nS e => kk2 b o nb nS (kk b o nb e)⟩
theorem mxd_first (Wk : Walks prog w A.in1 I f1 wr n P St) (bt : Nat → Nat → Bool) (cmp : CmpOf prog w A.in1 .Gt P bt) (sep : S ∉ f1) (pos : 0 < n) {s : Shared} {c : Nat} (st : St 0 s.heap)
    (gS : s.heap.get? S = some { cls := .type "list", dict := none, data := .seq #[] c, slots := #[] })
    (fin : ∀ v h' tk, P (argBest bt (n - 1)) v → (∀ b o, b ∉ wr → b ≠ S → s.heap.get? b = some o → h'.get? b = some o) → R (.ok (.ret v)) { s with heap := h', toks := tk }) : codeAny (model prog w) A (.builtin "max.loop" ⟨[.ref I, .none, .ref S], kw⟩) R s := by
  have sepW : S ∉ wr := fun h => sep (Wk.sub _ h)
  refine codeAny_builtin F.entry_max_loop ?_
  rw [Around.under_plainId F.plain_max_loop _]
  show wpAny _ A.in1 (seqItems? (.ref S) >>= _) _ _ s
  refine wpAny_bind (wpAny_seqItems gS rfl ?_)
  show wpAny _ A.in1 (tryCatch (pyNext (.ref I)) _ >>= _) _ _ s
  refine wpAny_bind (wpAny_tryCatch (Wk.item 0 s _ _ pos st fun v h' tk pv st' kk => ?_))
  have gS' := kk S _ sepW gS
  show wpAny _ A.in1 (updateSeq S (fun _ => #[v, v]) >>= _) _ _ _
  refine wpAny_bind ?_
  refine wpAny_updateSeq gS' rfl ?_
  rw [mx_name]
  refine wpAny_pure ⟨plainId_quiet F.plain_max_loop _, mxd_loop Wk bt cmp sep _ 0 _ v _ rfl pos (Wk.frame _ _ _ st' fun b hb o e => (Heap.get?_update_other _ _ (fun h : S = b => sep (by rw [h]; exact hb))).trans e) pv (Heap.get?_update_self _ gS' rfl)
    fun v' h2 tk2 pv2 kk2 => fin v' h2 tk2 pv2 fun b o nb nS e => kk2 b o nb nS ((Heap.get?_update_other _ _ (Ne.symm nS)).trans (kk b o nb e))⟩
theorem mxd_none (Wk : Walks prog w A.in1 I f1 wr 0 P St) (sep : S ∉ f1) {s : Shared} {c : Nat} {x : Str} {d : Value} (st : St 0 s.heap)
    (gS : s.heap.get? S = some { cls := .type "list", dict := none, data := .seq #[] c, slots := #[] })
    (fin : ∀ h' tk, (∀ b o, b ∉ wr → b ≠ S → s.heap.get? b = some o → h'.get? b = some o) → R (.ok (.ret d)) { s with heap := h', toks := tk }) : codeAny (model prog w) A (.builtin "max.loop" ⟨[.ref I, .none, .ref S], [(x, d)]⟩) R s := by
  refine codeAny_builtin F.entry_max_loop ?_
  rw [Around.under_plainId F.plain_max_loop _]
  show wpAny _ A.in1 (seqItems? (.ref S) >>= _) _ _ s
  refine wpAny_bind (wpAny_seqItems gS rfl ?_)
  show wpAny _ A.in1 (tryCatch (pyNext (.ref I)) _ >>= _) _ _ s
  refine wpAny_bind (wpAny_tryCatch (Wk.done s _ _ st fun h' tk kk => ?_))
  exact wpAny_bind (wpAny_rule (wpAny_pure (fin h' tk fun b o nb _ e => kk b o nb e)))
end
section
variable {prog : Program} {w : World} {A : Around} {E : Value → Shared → Prop} {s : Shared} {l : Addr} {xs : Array (Int × Tok)} {d : Value}
theorem mxd_args (a d : Value) : argsOk "max" ⟨[a], [("default", d)]⟩ := by unfold argsOk; kernel_rfl
theorem mxd_entry {Q : Value → Shared → Prop} (h : wpAny (model prog w) A.in1 (pyIter (.ref l)) (fun it s2 => ∃ I f1 wr n P St bt, it = .ref I ∧ Walks prog w A.in1 I f1 wr n P St ∧ St 0 s2.heap ∧ (∀ b ∈ f1, b < s2.heap.objs.size) ∧ CmpOf prog w A.in1 .Gt P bt ∧
      (n = 0 → ∀ h' tk, (∀ b o, b ∉ wr → s2.heap.get? b = some o → h'.get? b = some o) → Q d { s2 with heap := h', toks := tk }) ∧
      (0 < n → ∀ v h' tk, P (argBest bt (n - 1)) v → (∀ b o, b ∉ wr → s2.heap.get? b = some o → h'.get? b = some o) → Q v { s2 with heap := h', toks := tk })) E s) :
    wpAny (model prog w) A (call (.builtin "max") [.ref l] [("default", d)]) Q E s := by
  refine wpAny_call (codeAny_call_builtin F.plain_max F.entry_max ?_)
  have e : checkBuiltinCall "max" ⟨[.ref l], [("default", d)]⟩ = pure () := by
    have ha := mxd_args (.ref l) d
    simp only [checkBuiltinCall, F.kind_max]
    unfold argsOk at ha
    cases hs : Manifest.signature? "max" with
    | none => rfl
    | some sig => rw [hs] at ha; exact ha
  rw [e]
  refine wpAny_pure ?_
  show wpAny _ A.in1 (Builtin.Builtins.bindParams "max" ["key", "default"] 0 ⟨[], [("default", d)]⟩ >>= _) _ _ s
  refine wpAny_bind (wpAny_of_eq (show Builtin.Builtins.bindParams "max" ["key", "default"] 0 ⟨[], [("default", d)]⟩ = pure [none, some d] from rfl) ?_)
  refine wpAny_bind (wpAny_pure ?_)
  refine wpAny_bind (wpAny_mono h (fun it s2 h2 => ?_) fun _ _ e => e)
  obtain ⟨I, f1, wr, n, P, St, bt, rfl, Wk, st, below, cmp, q0, q1⟩ := h2
  refine wpAny_bind (wpAny_newObj_type ?_)
  have sep : s2.heap.objs.size ∉ f1 := fun hm => Nat.lt_irrefl _ (below _ hm)
  rw [mx_name]
  have st2 := Wk.frame _ _ _ st fun b _ o e => Heap.get?_push_of_some { cls := .type "list", data := .seq #[] } e
  rcases Nat.eq_zero_or_pos n with z | pos
  · subst z
    exact wpAny_pure ⟨plainId_quiet F.plain_max_loop _, mxd_none Wk sep st2 (Heap.get?_push_size _ rfl) fun h' tk kk => q0 rfl h' tk fun b o nb e => kk b o nb (Nat.ne_of_lt (Heap.lt_size e)) (Heap.get?_push_of_some _ e)⟩
  · exact wpAny_pure ⟨plainId_quiet F.plain_max_loop _, mxd_first Wk bt cmp sep pos st2 (Heap.get?_push_size _ rfl) fun v h' tk pv kk => q1 pos v h' tk pv fun b o nb e => kk b o nb (Nat.ne_of_lt (Heap.lt_size e)) (Heap.get?_push_of_some _ e)⟩
end
section
variable {X : Cx}
def rMaxDef (K : PySem.W.Frag) : List V → List V → Hp → VK → Prop := fun xs zs H Q => ∃ (l : Addr) (ns : List Int) (d : Int), xs = [.ref l] ∧ zs = [.int d] ∧ SqL K H l (ns.map V.int) ∧ (ns = [] → Q (.int d) H) ∧ (∀ m, m ∈ ns → (∀ y, y ∈ ns → y ≤ m) → Q (.int m) H)
theorem call_maxDef (hc : X.calm = true) : CallRK X (.builtin "max") ["default"] (rMaxDef X.K) := by
  intro pins s σ H xs zs us ws Q I r1 r2 h
  obtain ⟨l, ns, d, rfl, rfl, hs, q0, q1⟩ := h
  obtain ⟨its, rv, hl, _⟩ := I.list hs
  obtain ⟨u, rfl, ru⟩ := vals1 r2
  obtain ⟨td, rfl⟩ := ru
  rw [Vals.ref1 r1]
  have hi := rv.ints
  obtain ⟨as, e⟩ := hi.allInts.items
  have hn : numsOf (intItems as).toList = ns := by rw [← e]; exact hi.numsOf
  rw [nums_intItems] at hn
  subst hn
  have hl2 := hl.isList
  rw [e] at hl2
  show wpAny _ _ (call (.builtin "max") [.ref l] [("default", .int d td)]) _ _ _
  refine mxd_entry (iter_intList hl2 fun s2 e st below hlI => ?_)
  subst e
  refine ⟨_, _, _, _, _, _, _, rfl, Walks.list (A := X.A.in1) (I.ok.hd hc) _ l hlI (intItems as), st, below, CmpOf.ints_gt (numAt as) (fun _ _ => intItems_at), fun hz h' tk kk => ?_, fun pos v h' tk pv kk => ?_⟩
  · have e0 : as.size = 0 := by simpa [intItems] using hz
    exact ⟨.int d, H, I.kept (old_kept kk), ⟨_, rfl⟩, q0 (by rw [Array.eq_empty_of_size_eq_zero e0]; rfl)⟩
  · have p0 : 0 < as.size := by simpa [intItems] using pos
    have pv' : (intItems as)[argBest (fun i j => decide (numAt as i > numAt as j)) (as.size - 1)]? = some v := by simpa [intItems] using pv
    obtain ⟨t, rfl⟩ := intItems_at pv'
    obtain ⟨h1, h2⟩ := argBest_gt (numAt as) (as.size - 1)
    refine ⟨.int _, H, I.kept (old_kept kk), ⟨t, rfl⟩, q1 _ ?_ fun a ha => ?_⟩
    · rw [numAt_eq]
      exact PySem.getD_mem (by rw [List.length_map, Array.length_toList]; omega)
    · obtain ⟨j, hj, rfl⟩ := mem_getD ha
      rw [List.length_map, Array.length_toList] at hj
      rw [← numAt_eq]
      exact h2 j (by omega)
end
end Rz

namespace Rz
open PySem PySem.Spec PyProof.Rows L2
/-! ### rows: pairs of a sign's code and a height -/
abbrev Pr := Nat × Int
def prV (p : Pr) : List V := [.str ⟨#[p.1]⟩, .int p.2]
/-- the tuples ts are the pairs ps -/
def PAt (H : Hp) (ts : List Addr) (ps : List Pr) : Prop := Paired (fun (t : Addr) (p : Pr) => H t = some (.tup (prV p))) ts ps
/-- a list of such tuples -/
def LAt (H : Hp) (l : Addr) (ps : List Pr) : Prop := ∃ ts : List Addr, H l = some (.lst (ts.map V.ref)) ∧ PAt H ts ps
/-- a row: its list stands at l -/
def RAt (cR : Addr) (H : Hp) (p l : Addr) (ps : List Pr) : Prop := ∃ dx, H p = some (.ins cR dx [("_pairs", .ref l)]) ∧ LAt H l ps
/-- signs with heights -/
def GoodR (ps : List Pr) : Prop := ∀ p ∈ ps, oddC p.1 = false ∧ 0 ≤ p.2 ∧ p.2 ≤ 9
def tx (ps : List Pr) : Str := ⟨(ps.map (·.1)).toArray⟩
def hts (ps : List Pr) : List Int := ps.map (·.2)
theorem tx_len (ps : List Pr) : (tx ps).length = ps.length := by
  show (ps.map (·.1)).toArray.size = _
  rw [List.size_toArray, List.length_map]
theorem tx_list (ps : List Pr) : (tx ps).cps.toList = ps.map (·.1) := rfl
theorem hts_len (ps : List Pr) : (hts ps).length = ps.length := List.length_map ..
/-- tuples stay -/
def Tups (H H' : Hp) : Prop := ∀ b xs, H b = some (.tup xs) → H' b = some (.tup xs)
theorem Tups.of {H H' : Hp} (h : Same H H') : Tups H H' := fun b _ e => h b _ e
theorem Tups.but {D : List Addr} {H H' : Hp} (h : But D H H') (n : ∀ d ∈ D, ∀ xs, H d ≠ some (.tup xs)) : Tups H H' := fun b xs e => h b _ (fun hb => n b hb xs e) e
theorem Tups.trans {H H1 H2 : Hp} (a : Tups H H1) (b : Tups H1 H2) : Tups H H2 := fun c xs e => b c xs (a c xs e)
theorem Tups.upd {H H' : Hp} {p : Addr} {o : HO} (a : Tups H H') (n : ∀ xs, H' p ≠ some (.tup xs)) : Tups H (L2.upd H' p o) := fun c xs e => by
  have e1 := a c xs e
  rw [upd_ne (fun z => n xs (by rw [← z]; exact e1))]
  exact e1
theorem PAt.keep {H H' : Hp} (h : Tups H H') : ∀ {ts : List Addr} {ps : List Pr}, PAt H ts ps → PAt H' ts ps
  | _, _, .nil => .nil
  | _, _, .cons e t => .cons (h _ _ e) (PAt.keep h t)
theorem PAt.length {H : Hp} {ts : List Addr} {ps : List Pr} (h : PAt H ts ps) : ts.length = ps.length := Paired.length h
theorem PAt.append {H : Hp} : ∀ {ts us : List Addr} {ps qs : List Pr}, PAt H ts ps → PAt H us qs → PAt H (ts ++ us) (ps ++ qs)
  | _, _, _, _, .nil, s => s
  | _, _, _, _, .cons e t, s => .cons e (PAt.append t s)
theorem PAt.set {H : Hp} {t : Addr} {p : Pr} (e : H t = some (.tup (prV p))) : ∀ {ts : List Addr} {ps : List Pr} (i : Nat), PAt H ts ps → PAt H (ts.set i t) (ps.set i p)
  | _, _, _, .nil => .nil
  | _, _, 0, .cons _ r => .cons e r
  | _, _, i + 1, .cons a r => .cons a (PAt.set e i r)
theorem PAt.rep {H : Hp} {ts : List Addr} {ps : List Pr} (h : PAt H ts ps) : ∀ n : Nat, PAt H (List.replicate n ts).flatten (List.replicate n ps).flatten
  | 0 => .nil
  | n + 1 => by
    rw [List.replicate_succ, List.replicate_succ, List.flatten_cons, List.flatten_cons]
    exact PAt.append h (PAt.rep h n)
theorem PAt.get {H : Hp} : ∀ {ts : List Addr} {ps : List Pr} {i : Nat} {t : Addr}, PAt H ts ps → ts[i]? = some t → ∃ p, ps[i]? = some p ∧ H t = some (.tup (prV p))
  | _, _, i, t, .nil, h => by cases h
  | _, _, 0, t, .cons e r, h => by
    have z := Option.some.inj h
    subst z
    exact ⟨_, rfl, e⟩
  | _, _, i + 1, t, .cons e r, h => PAt.get (i := i) r (by simpa using h)
theorem refs_get {ts : List Addr} {i : Nat} {y : V} (h : (ts.map V.ref)[i]? = some y) : ∃ t, ts[i]? = some t ∧ y = .ref t := by
  rw [List.getElem?_map] at h
  cases e : ts[i]? with
  | none => rw [e] at h; cases h
  | some u => rw [e] at h; exact ⟨u, rfl, (Option.some.inj h).symm⟩
theorem LAt.keep {H H' : Hp} {l : Addr} {ps : List Pr} (h : Tups H H') (e : H' l = H l) (a : LAt H l ps) : LAt H' l ps := let ⟨ts, h1, h2⟩ := a; ⟨ts, e.trans h1, h2.keep h⟩
theorem LAt.same {H H' : Hp} {l : Addr} {ps : List Pr} (h : Same H H') (a : LAt H l ps) : LAt H' l ps := let ⟨ts, h1, h2⟩ := a; ⟨ts, h _ _ h1, h2.keep (.of h)⟩
theorem LAt.at {H : Hp} {l : Addr} {ps : List Pr} (a : LAt H l ps) : ∃ ts : List Addr, H l = some (.lst (ts.map V.ref)) ∧ ts.length = ps.length := let ⟨ts, h1, h2⟩ := a; ⟨ts, h1, h2.length⟩
theorem RAt.same {H H' : Hp} {cR p l : Addr} {ps : List Pr} (h : Same H H') (a : RAt cR H p l ps) : RAt cR H' p l ps := let ⟨dx, h1, h2⟩ := a; ⟨dx, h _ _ h1, h2.same h⟩
theorem RAt.keep {H H' : Hp} {cR p l : Addr} {ps : List Pr} (h : Tups H H') (e : H' p = H p) (e2 : H' l = H l) (a : RAt cR H p l ps) : RAt cR H' p l ps := let ⟨dx, h1, h2⟩ := a; ⟨dx, e.trans h1, h2.keep h e2⟩
/-- what list(zip(signs, heights)) gives -/
theorem zkv_pairs {H : Hp} {ts : List Addr} {x : Str} {ns : List Int} (h : Paired (fun (t : Addr) (u : Key × V) => H t = some (.tup [kV u.1, u.2])) ts (zkv x (ns.map V.int))) : PAt H ts (x.cps.toList.zip ns) := by
  unfold zkv at h
  generalize x.cps.toList = cs at h ⊢
  induction cs generalizing ts ns with
  | nil => cases h; exact .nil
  | cons c cs ih =>
    cases ns with
    | nil => cases h; exact .nil
    | cons n ns =>
      cases h with
      | cons e r => exact .cons e (ih r)
theorem join_signs (ps : List Pr) : Txt.join "" (ps.map fun p => (⟨#[p.1]⟩ : Str)) = tx ps := by
  have h := join0 (ps.map fun p => (⟨#[p.1]⟩ : Str))
  have e : ((ps.map fun p => (⟨#[p.1]⟩ : Str)).map fun y => y.cps.toList).flatten = ps.map (·.1) := by
    rw [List.map_map]
    clear h
    induction ps with
    | nil => rfl
    | cons p ps ih => rw [List.map_cons, List.flatten_cons, ih]; rfl
  rw [e] at h
  generalize Txt.join "" (ps.map fun p => (⟨#[p.1]⟩ : Str)) = j at h
  cases j with
  | mk a =>
    have h2 : a = (ps.map (·.1)).toArray := by
      rw [← h]
    rw [h2]
    rfl
theorem zip_tx {z : Str} {ns : List Int} (h : ns.length = z.length) : (z.cps.toList.zip ns).map (·.1) = z.cps.toList := by
  rw [List.map_fst_zip]
  rw [h]
  exact Nat.le_refl _
theorem zip_hts {z : Str} {ns : List Int} (h : ns.length = z.length) : (z.cps.toList.zip ns).map (·.2) = ns := by
  rw [List.map_snd_zip]
  rw [h]
  exact Nat.le_refl _
theorem tx_hts_zip (ps : List Pr) : (tx ps).cps.toList.zip (hts ps) = ps := by
  rw [tx_list]
  induction ps with
  | nil => rfl
  | cons p ps ih =>
    show (p.1, p.2) :: _ = _
    exact congrArg (p :: ·) ih
/-- a height that is none -/
def badH (n : Int) : Bool := decide (n < 0) || decide (9 < n)
/-- what becomes of Row(z, ns) -/
inductive RR | sign (i : Nat) | uneven | height (n : Int) | row
def rr (z : Str) (ns : List Int) : RR := match fo z with
  | some i => .sign i
  | none => if ns.length ≠ z.length then .uneven else match ns.find? badH with
    | some n => .height n
    | none => .row
theorem rr_good {ps : List Pr} (h : GoodR ps) : rr (tx ps) (hts ps) = .row := by
  have e1 : fo (tx ps) = none := fo_none fun j c hj => by
    rw [tx_list, List.getElem?_map] at hj
    cases e : ps[j]? with
    | none => rw [e] at hj; cases hj
    | some p =>
      rw [e] at hj
      have e2 := Option.some.inj hj
      rw [← e2]
      exact (h p (List.mem_of_getElem? e)).1
  have e2 : (hts ps).find? badH = none := by
    rw [List.find?_eq_none]
    intro n hn
    obtain ⟨p, hp, rfl⟩ := List.mem_map.mp hn
    have h2 := (h p hp).2
    unfold badH
    simp
    omega
  unfold rr
  rw [e1]
  dsimp only
  rw [if_neg (by rw [tx_len, hts_len]; simp), e2]
end Rz
namespace Rz
open PySem PySem.Spec PyProof.Rows L2
/-- a comprehension over such a list -/
theorem lc_pairs {K : PySem.W.Frag} {l : Addr} {ps : List Pr} {g : TG} {te : TE} {vs : List Nat} {σ : L2.St} {H1 : Hp} {D : Addr} {Qd : Hp → Prop} (f : Pr → V) (hL : LAt H1 l ps) (hz : ps.length ≤ sizeLine) (hD : H1 D = none)
    (body : ∀ (t : Addr) (p : Pr) (H : Hp) (Q : VK), p ∈ ps → Same H1 H → H t = some (.tup (prV p)) → (∀ H4, Same H H4 → Q (f p) H4) → g (.ref t) (wipe σ vs) H fun σ2 H2 => wipe σ2 vs = wipe σ vs ∧ te σ2 H2 Q)
    (hd : ∀ H, Same H1 H → H D = some (.lst (ps.map f)) → Qd H) :
    ∃ W : Nat → Nat → Hp → Prop, (∃ m, W 0 m (upd H1 D (.lst []))) ∧ ∀ i m H, W i m H →
      ((Itl K l).stop i H ∧ Qd H) ∨ ((Itl K l).go i H ∧ ∃ Nx : Hp → Prop, (∀ H', Nx H' → ∃ m', m' < m ∧ W (i + 1) m' H') ∧ ∀ x H', (Itl K l).yld i H x H' → g x (wipe σ vs) H' fun σ2 H2 => wipe σ2 vs = wipe σ vs ∧ tYes σ2 H2 fun b H3 =>
        if b = true then te σ2 H3 fun y H4 => ∃ acc, H4 D = some (.lst acc) ∧ acc.length < sizeLine ∧ Nx (upd H4 D (.lst (acc ++ [y]))) else Nx H3) := by
  obtain ⟨ts, hl, hP⟩ := hL
  refine lc_list (K := K) (a := l) (xs := ts.map V.ref) (fun i H => Same H1 H ∧ H D = some (.lst ((ps.take i).map f))) ⟨Rz.Same.new (Same.refl H1) hD, upd_same⟩ (fun i H _ h => SqL.of (h.1 _ _ hl)) (fun i x H hx h => ?_) (fun H h => hd H h.1 ?_)
  · obtain ⟨S, e⟩ := h
    obtain ⟨t, ht, rfl⟩ := refs_get hx
    obtain ⟨p, hp, h2⟩ := hP.get ht
    have hi : i < ps.length := (List.getElem?_eq_some_iff.mp hp).1
    refine body t p H _ (List.mem_of_getElem? hp) S (S _ _ h2) fun H4 S4 => ⟨_, S4 _ _ e, ?_, Rz.Same.upd (S.trans S4) hD, ?_⟩
    · rw [List.length_map, List.length_take]
      omega
    · rw [upd_same, List.take_add_one, hp, List.map_append]
      rfl
  · have := h.2
    rw [List.length_map, hP.length, List.take_length] at this
    exact this
end Rz
namespace Rz
open PySem PySem.Spec PyProof.Rows L2
theorem LAt.but {D : List Addr} {H H' : Hp} {l : Addr} {ps : List Pr} (a : LAt H l ps) (B : But D H H') (n : l ∉ D) (t : Tups H H') : LAt H' l ps := let ⟨ts, h1, h2⟩ := a; ⟨ts, B.at h1 n, h2.keep t⟩
theorem RAt.but {D : List Addr} {H H' : Hp} {cR p l : Addr} {ps : List Pr} (a : RAt cR H p l ps) (B : But D H H') (n1 : p ∉ D) (n2 : l ∉ D) (t : Tups H H') : RAt cR H' p l ps := let ⟨dx, h1, h2⟩ := a; ⟨dx, B.at h1 n1, h2.but B n2 t⟩
theorem LAt.upd {H : Hp} {l q : Addr} {ps : List Pr} {o : HO} (a : LAt H l ps) (n : l ≠ q) (t : ∀ xs, H q ≠ some (.tup xs)) : LAt (L2.upd H q o) l ps := let ⟨ts, h1, h2⟩ := a; ⟨ts, by rw [upd_ne n]; exact h1, h2.keep (Tups.upd (fun _ _ e => e) t)⟩
theorem RAt.upd {H : Hp} {cR p l q : Addr} {ps : List Pr} {o : HO} (a : RAt cR H p l ps) (n1 : p ≠ q) (n2 : l ≠ q) (t : ∀ xs, H q ≠ some (.tup xs)) : RAt cR (L2.upd H q o) p l ps := let ⟨dx, h1, h2⟩ := a; ⟨dx, by rw [upd_ne n1]; exact h1, h2.upd n2 t⟩
theorem Dr.but {D : List Addr} {H H' : Hp} {d : Addr} (a : Dr H d) (B : But D H H') (n : d ∉ D) : Dr H' d := let ⟨ns, h1, h2⟩ := a; ⟨ns, B.at h1 n, h2⟩
theorem Dr.upd {H : Hp} {d q : Addr} {o : HO} (a : Dr H d) (n : d ≠ q) : Dr (L2.upd H q o) d := let ⟨ns, h1, h2⟩ := a; ⟨ns, by rw [upd_ne n]; exact h1, h2⟩
theorem LAt.isL {H : Hp} {l : Addr} {ps : List Pr} (a : LAt H l ps) : ∃ xs, H l = some (.lst xs) := let ⟨ts, h1, _⟩ := a; ⟨_, h1⟩
theorem RAt.isI {H : Hp} {cR p l : Addr} {ps : List Pr} (a : RAt cR H p l ps) : ∃ dx fs, H p = some (.ins cR dx fs) := let ⟨dx, h1, _⟩ := a; ⟨dx, _, h1⟩
theorem RAt.lst {H : Hp} {cR p l : Addr} {ps : List Pr} (a : RAt cR H p l ps) : LAt H l ps := let ⟨_, _, h⟩ := a; h
theorem Dr.isL {H : Hp} {d : Addr} (a : Dr H d) : ∃ xs, H d = some (.lst xs) := let ⟨ns, h1, _⟩ := a; ⟨_, h1⟩
/-- a list and a row stand apart -/
theorem apartLI {H : Hp} {l p cR m : Addr} {ps : List Pr} (h : ∃ xs, H l = some (.lst xs)) (r : RAt cR H p m ps) : l ≠ p := by
  obtain ⟨xs, e⟩ := h
  obtain ⟨dx, fs, e2⟩ := r.isI
  exact ne_of e e2 fun z => nomatch z
theorem apartLT {H : Hp} {l t : Addr} {ys : List V} (h : ∃ xs, H l = some (.lst xs)) (e2 : H t = some (.tup ys)) : l ≠ t := by
  obtain ⟨xs, e⟩ := h
  exact ne_of e e2 fun z => nomatch z
theorem apartNew {H : Hp} {x y : Addr} (h : ∃ o, H x = some o) (n : H y = none) : x ≠ y := let ⟨_, e⟩ := h; ne_of_none e n
theorem LAt.some {H : Hp} {l : Addr} {ps : List Pr} (a : LAt H l ps) : ∃ o, H l = Option.some o := let ⟨ts, h1, _⟩ := a; ⟨_, h1⟩
theorem RAt.some {H : Hp} {cR p l : Addr} {ps : List Pr} (a : RAt cR H p l ps) : ∃ o, H p = Option.some o := let ⟨dx, h1, _⟩ := a; ⟨_, h1⟩
theorem Dr.some {H : Hp} {d : Addr} (a : Dr H d) : ∃ o, H d = Option.some o := let ⟨ns, h1, _⟩ := a; ⟨_, h1⟩
theorem not_tupL {H : Hp} {l : Addr} (h : ∃ xs, H l = some (.lst xs)) : ∀ xs, H l ≠ some (.tup xs) := fun ys e => by
  obtain ⟨xs, e2⟩ := h
  rw [e2] at e
  cases e
theorem not_tupI {H : Hp} {cR p l : Addr} {ps : List Pr} (r : RAt cR H p l ps) : ∀ xs, H p ≠ some (.tup xs) := fun ys e => by
  obtain ⟨dx, fs, e2⟩ := r.isI
  rw [e2] at e
  cases e
theorem not_tupN {H : Hp} {p : Addr} (h : H p = none) : ∀ xs, H p ≠ some (.tup xs) := fun ys e => by
  rw [h] at e
  cases e
theorem tups1 {H H' : Hp} {x : Addr} (B : But [x] H H') (n : ∀ xs, H x ≠ some (.tup xs)) : Tups H H' := Tups.but B fun d hd xs => by
  have e : d = x := by simpa using hd
  rw [e]
  exact n xs
theorem nin1 {x y : Addr} (n : x ≠ y) : x ∉ [y] := by simpa using n
end Rz

namespace Rz
open PySem PySem.Spec PyProof.Rows L2
/-! ### comparisons of two of one own class -/
section
variable {X : Cx} {k : Nat} {f C : Addr} {fd : FuncData} {ps : List Str} {sp : Sp}
def rCmpO (C : Addr) (sp : Sp) : R2 := fun x y H Q => ∃ (a dx b dy : Addr) (fs gs : List (Str × V)), x = .ref a ∧ y = .ref b ∧ H a = some (.ins C dx fs) ∧ H b = some (.ins C dy gs) ∧ sp [.ref a, .ref b] H (fun v H' => (∃ r, v = .bl r) ∧ Q v H') E0
/-- x == y by the own __eq__ -/
theorem op_eqO (M : Meth X.K C "__eq__" f) (F : FnOk X.prog X.w X.K X.mg X.base (L2.CX X.prog X.w) k f fd ps sp) (hr : Room k X.A) (hb : Binds X.K fd ps []) (hu : X.A.units < cLine) : OpR X (compareOp .Eq) (rCmpO C sp) := by
  intro pins s σ H x y v u Q I r1 r2 h
  obtain ⟨a, dx, b, dy, fs, gs, rfl, rfl, ea, eb, hq⟩ := h
  obtain rfl : v = Value.ref a := r1
  obtain rfl : u = Value.ref b := r2
  obtain ⟨od, J⟩ := inst_at I ea
  obtain ⟨od2, J2⟩ := inst_at I eb
  obtain ⟨m0, hF⟩ := I.fr
  show wpAny _ _ (richCompare .Eq (.ref a) (.ref b)) _ _ _
  refine PySem.W.cmp_K (op := .Eq) hu hF I.ok.mod.kin J J2.type (by unfold PySem.W.notFirst; simp) M.at_ M.fn (wpAny_mono (run_below (vs := [.ref a, .ref b]) F hr rfl hb I (.cons rfl (.cons rfl .nil)) hq) (fun r s' hv => ?_) fun _ _ z => z)
  obtain ⟨z, H', J', rz, ⟨c, rfl⟩, q⟩ := hv
  obtain rfl : r = Value.bool c := rz
  exact ⟨.bl c, H', J', rfl, q⟩
/-- x < y by the own __lt__ -/
theorem op_ltO (M : Meth X.K C "__lt__" f) (F : FnOk X.prog X.w X.K X.mg X.base (L2.CX X.prog X.w) k f fd ps sp) (hr : Room k X.A) (hb : Binds X.K fd ps []) (hu : X.A.units < cLine) : OpR X (compareOp .Lt) (rCmpO C sp) := by
  intro pins s σ H x y v u Q I r1 r2 h
  obtain ⟨a, dx, b, dy, fs, gs, rfl, rfl, ea, eb, hq⟩ := h
  obtain rfl : v = Value.ref a := r1
  obtain rfl : u = Value.ref b := r2
  obtain ⟨od, J⟩ := inst_at I ea
  obtain ⟨od2, J2⟩ := inst_at I eb
  obtain ⟨m0, hF⟩ := I.fr
  show wpAny _ _ (richCompare .Lt (.ref a) (.ref b)) _ _ _
  refine PySem.W.cmp_K (op := .Lt) hu hF I.ok.mod.kin J J2.type (by unfold PySem.W.notFirst; simp) M.at_ M.fn (wpAny_mono (run_below (vs := [.ref a, .ref b]) F hr rfl hb I (.cons rfl (.cons rfl .nil)) hq) (fun r s' hv => ?_) fun _ _ z => z)
  obtain ⟨z, H', J', rz, ⟨c, rfl⟩, q⟩ := hv
  obtain rfl : r = Value.bool c := rz
  exact ⟨.bl c, H', J', rfl, q⟩
end
end Rz
namespace Rz
open PySem PySem.Spec PyProof.Rows L2
section
variable {X : Cx} {k : Nat} {f C : Addr} {fd : FuncData} {ps : List Str} {sp : Sp}
/-- y in x by the own __contains__, that gives a bool -/
def rInO (C : Addr) (sp : Sp) : R2 := fun y x H Q => ∃ (a dx : Addr) (fs : List (Str × V)), x = .ref a ∧ H a = some (.ins C dx fs) ∧ sp [.ref a, y] H (fun v H' => ∃ r, v = .bl r ∧ Q (.bl r) H') E0
theorem op_inO (M : Meth X.K C "__contains__" f) (F : FnOk X.prog X.w X.K X.mg X.base (L2.CX X.prog X.w) k f fd ps sp) (hr : Room k X.A) (hb : Binds X.K fd ps []) : OpR X (compareOp .In) (rInO C sp) := by
  intro pins s σ H y x u v Q I r1 r2 h
  obtain ⟨a, dx, fs, rfl, ea, hq⟩ := h
  obtain rfl : v = Value.ref a := r2
  obtain ⟨od, J⟩ := inst_at I ea
  obtain ⟨m0, hF⟩ := I.fr
  refine PySem.W.in_K hF I.ok.mod.kin J M.at_ M.fn (wpAny_mono (run_below (vs := [.ref a, y]) F hr rfl hb I (.cons rfl (.cons r1 .nil)) hq) (fun r s' hv => ?_) fun _ _ z => z)
  obtain ⟨z, H', J', rz, c, rfl, q⟩ := hv
  obtain rfl : r = Value.bool c := rz
  exact wpAny_truthy_bool ⟨.bl c, H', J', rfl, q⟩
/-- x[i] by the own __getitem__ -/
def rGetO (C : Addr) (sp : Sp) : V → V → Hp → VK → Prop := fun x i H Q => ∃ (a dx : Addr) (fs : List (Str × V)), x = .ref a ∧ H a = some (.ins C dx fs) ∧ sp [.ref a, i] H Q E0
theorem get_own (M : Meth X.K C "__getitem__" f) (hn : PySem.W.noSeq X.K C = true) (F : FnOk X.prog X.w X.K X.mg X.base (L2.CX X.prog X.w) k f fd ps sp) (hr : Room k X.A) (hb : Binds X.K fd ps []) : PGet X (rGetO C sp) := by
  intro pins s σ H x i v u Q I r1 r2 h
  obtain ⟨a, dx, fs, rfl, ea, hq⟩ := h
  obtain rfl : v = Value.ref a := r1
  obtain ⟨od, J⟩ := inst_at I ea
  obtain ⟨m0, hF⟩ := I.fr
  exact PySem.W.getItem_K hF I.ok.mod.kin J hn M.at_ M.fn (run_below (vs := [.ref a, i]) F hr rfl hb I (.cons rfl (.cons r2 .nil)) hq)
end
end Rz

namespace Rz
open PySem PySem.Spec PyProof.Rows L2
/-! ### slice objects as values; own classes that are asked with slices -/
theorem sl_ga_slot : Slot "slice" "__getattribute__" "slice.__getattribute__" :=
  .of (owner := "slice") (n := "__getattribute__") (by rw [typeLookup_type, builtinLookup_eq_fast]; kernel_rfl) (by decide +kernel) (by decide +kernel) (by decide +kernel) (by first | exact .inl (by decide +kernel) | exact .inr (by decide +kernel)) (by rw [isSubtype_type]; kernel_rfl)
theorem sl_ga_args (a b : Value) : argsOk "slice.__getattribute__" ⟨[a, b], []⟩ := by unfold argsOk; kernel_rfl
theorem sl_ga_entry : entryFor table "slice.__getattribute__" = some Builtin.«object.__getattribute__» := entryFor_alias (id' := "object.__getattribute__") (by kernel_rfl) (by first | rfl | decide +kernel) (by decide +kernel) (by kernel_rfl)
theorem sl_lk_class : typeLookup (.type "slice") "__class__" = pure (some (.builtin "object.__class__")) := by rw [typeLookup_type, builtinLookup_eq_fast]; kernel_rfl
theorem sl_sub_owner : isSubtype (.type "slice") (.type (".".intercalate ("object.__class__".cutAt '.').dropLast)) = pure true := by rw [F.owner_object_class, isSubtype_type]; kernel_rfl
section
variable {prog : Program} {w : World} {A : Around} {E : Value → Shared → Prop} {h : Heap} {g : Array GenState} {d : Drawn} {t : Nat} {os : OsState} {a : Addr} {o : Obj}
theorem sl_class_get {R : Result → Shared → Prop} (hx : h.get? a = some o) (hc : o.cls = .type "slice") (hq : R (.ok (.ret (.type "slice"))) ⟨h, g, d, t, os⟩) : codeAny (model prog w) A (.call (.builtin "getset_descriptor.__get__") ⟨[.builtin "object.__class__", .ref a, .type "slice"], []⟩) R ⟨h, g, d, t, os⟩ := by
  have hTs : (⟨h, g, d, t, os⟩ : Shared).TypeIs (.ref a) "slice" := ⟨_, hx, hc⟩
  have hTg : (⟨h, g, d, t, os⟩ : Shared).TypeIs (.builtin "object.__class__") "getset_descriptor" := F.typeOf_object_class
  have f1 := sl_sub_owner
  refine codeAny_call_builtin F.slot_gs_get.plain F.entry_gs_get (F.slot_gs_get.check _ _ _ _ _ _ _ _ hTg (F.args_gs_get _ _ _) ?_)
  repeat (any_goals (first | assumption | wp_step))
  refine ⟨Code.quiet_builtin _ (by decide +kernel), codeAny_builtin F.entry_object_class ?_⟩
  repeat (any_goals (first | assumption | wp_step))
theorem sl_class_entry {tk : Tok} {Q : Fin → Shared → Prop} (hx : h.get? a = some o) (hc : o.cls = .type "slice") (hq : Q (.done (.ret (.type "slice"))) ⟨h, g, d, t, os⟩) : wpAny (model prog w) A (Builtin.«object.__getattribute__» ⟨[.ref a, .str "__class__" tk], []⟩) Q E ⟨h, g, d, t, os⟩ := by
  have hTs : (⟨h, g, d, t, os⟩ : Shared).TypeIs (.ref a) "slice" := ⟨_, hx, hc⟩
  have hTg : (⟨h, g, d, t, os⟩ : Shared).TypeIs (.builtin "object.__class__") "getset_descriptor" := F.typeOf_object_class
  have f1 := sl_lk_class
  have f2 := F.typeOf_object_class
  have f3 := F.slot_gs_get.lookup
  have f4 := F.slot_gs_set.lookup
  repeat (any_goals (first | assumption | wp_step))
  refine sl_class_get hx hc ?_
  repeat (any_goals (first | assumption | wp_step))
theorem sl_class_call {tk : Tok} {R : Result → Shared → Prop} (hx : h.get? a = some o) (hc : o.cls = .type "slice") (hq : R (.ok (.ret (.type "slice"))) ⟨h, g, d, t, os⟩) : codeAny (model prog w) A (.call (.builtin "slice.__getattribute__") ⟨[.ref a, .str "__class__" tk], []⟩) R ⟨h, g, d, t, os⟩ :=
  codeAny_call_builtin sl_ga_slot.plain sl_ga_entry (sl_ga_slot.check _ _ _ _ _ _ _ _ (show (⟨h, g, d, t, os⟩ : Shared).TypeIs (.ref a) "slice" from ⟨_, hx, hc⟩) (sl_ga_args _ _) (sl_class_entry hx hc hq))
theorem sl_class_by {tk : Tok} {Q : Value → Shared → Prop} (hx : h.get? a = some o) (hc : o.cls = .type "slice") (hq : Q (.type "slice") ⟨h, g, d, t, os⟩) : wpAny (model prog w) A (getAttrBy (.ref a) (.str "__class__" tk) false) Q E ⟨h, g, d, t, os⟩ := by
  have hTs : (⟨h, g, d, t, os⟩ : Shared).TypeIs (.ref a) "slice" := ⟨_, hx, hc⟩
  have f1 := sl_ga_slot.lookup
  have f2 := sl_ga_slot.bind (.ref a)
  repeat (any_goals (first | assumption | wp_step))
  refine sl_class_call hx hc ?_
  repeat (any_goals (first | assumption | wp_step))
theorem sl_class_attr {Q : Option Value → Shared → Prop} (hx : h.get? a = some o) (hc : o.cls = .type "slice") (hq : Q (some (.type "slice")) ⟨h, g, d, t + 1, os⟩) : wpAny (model prog w) A (getAttr? (.ref a) "__class__") Q E ⟨h, g, d, t, os⟩ := by
  unfold getAttr? getAttrBy?
  repeat (any_goals (first | assumption | with_reducible apply sl_class_by hx hc | wp_step))
end
/-- the slice lo:hi stands at a -/
def SlO (a : Addr) (lo hi : Int) : HO := .ext fun h => ∃ t u, h.IsSliceOf a (.int lo t) (.int hi u) .none
theorem slO_ok {P : Program} {w : World} {H : Hp} {h : Heap} {a : Addr} {lo hi : Int} {t u : Tok} (e : h.IsSliceOf a (.int lo t) (.int hi u) .none) : ObjOk P w H h a (SlO a lo hi) := by
  obtain ⟨o, e1, r⟩ := e
  exact ⟨⟨t, u, o, e1, r⟩, ⟨o, e1⟩, fun h1 h2 ⟨t, u, o, e1, r⟩ k => ⟨t, u, o, k _ e1, r⟩⟩
theorem slO_get {X : Cx} {pins : List (Addr × Obj)} {σ : L2.St} {H : Hp} {s : Shared} {a : Addr} {lo hi : Int} (I : Inv X pins σ H s) (e : H a = some (SlO a lo hi)) : ∃ t u, s.heap.IsSliceOf a (.int lo t) (.int hi u) .none := by
  obtain ⟨p, _, _⟩ := (show ObjOk X.prog X.w H s.heap a (SlO a lo hi) from I.hok a _ e)
  exact p
section
variable {X : Cx} {k : Nat} {f C : Addr} {fd : FuncData} {ps : List Str} {sp : Sp}
/-- isinstance(x, T) of a slice -/
theorem call_isiSl : CallR X (.builtin "isinstance") (fun xs H Q => ∃ (a : Addr) (lo hi : Int) (c : V) (u : Value) (b : Bool), xs = [.ref a, c] ∧ ClsV c u ∧ H a = some (SlO a lo hi) ∧ PySem.W.kitOne X.K (.type "slice") u = some b ∧ Q (.bl b) H) := by
  intro pins s σ H xs us Q I r h
  obtain ⟨a, lo, hi, c, u, b, rfl, kc, ea, e, q⟩ := h
  obtain ⟨u1, u2, rfl, r1, r2⟩ := vals2 r
  have e2 := kc.eq r2
  subst e2
  obtain rfl : u1 = Value.ref a := r1
  obtain ⟨t, u, o, e1, hc, _⟩ := slO_get I ea
  have Z : PySem.W.KitX X.K (.ref a) (.type "slice") (PySem.W.KitAt a "slice") := PySem.W.kitx_of PySem.W.kitAt_ty (fun {_ _ _ _ _ s} p k => by obtain ⟨h, g, d, t, os⟩ := s; obtain ⟨o, h1, h2⟩ := p; exact sl_class_attr h1 h2 k)
  exact PySem.W.kia_one Z I.kIn ⟨o, e1, hc⟩ e (fun z => nomatch z) fun tk => ⟨.bl b, H, I.tok tk, rfl, q⟩
/-- xs[s] of a list, s a slice -/
theorem ix_sliceV : IxR X (fun x y H Q => ∃ (p sl : Addr) (lo hi : Int) (xs : List V), x = .ref p ∧ y = .ref sl ∧ SqL X.K H p xs ∧ H sl = some (SlO sl lo hi) ∧ ∀ q, H q = none → Q (.ref q) (upd H q (.lst (cutV xs (some lo) (some hi))))) := by
  intro value slice pins s σ H x y v u Q I rx ry h hs
  obtain ⟨p, sl, lo, hi, xs, rfl, rfl, hq, es, q⟩ := h
  cases rx
  cases ry
  obtain ⟨t, u, hsl⟩ := slO_get I es
  obtain ⟨its, r, pl, hz⟩ := I.list hq
  have hlen := r.length
  refine tail_any (ops := [.ref p, .ref sl]) pl.isList.typeIs slot_list_getitem.lookup ?_ hs
  refine wpAny_getItem_list_slice pl.isList hsl (.int _ _) (.int _ _) .none (by simp) ?_ (by rw [List.size_toArray] <;> omega)
  rw [slicePick_cut, ← hlen]
  refine ⟨.ref s.heap.objs.size, _, I.laid (t' := s.toks) (o := .lst (cutV xs (some lo) (some hi))) (fun b ob q => Heap.get?_push_of_some _ q) (Nat.le_refl _) ?_, rfl, q _ (I.hok.fresh (Nat.le_refl _))⟩
  exact ⟨Nat.le_trans (cutV_length xs _ _) hz, _, 0, (r.drop _).take _, Heap.get?_push_size _ rfl⟩
/-- xs[s] = ys of lists, s a slice -/
theorem set_sliceV : PSet X (fun o i v H Q => ∃ (l b sl : Addr) (lo hi : Int) (xs ys : List V), o = .ref l ∧ i = .ref sl ∧ v = .ref b ∧ H l = some (.lst xs) ∧ H b = some (.lst ys) ∧ H sl = some (SlO sl lo hi) ∧ l ≠ b ∧ 0 ≤ lo ∧ lo ≤ hi ∧ hi ≤ xs.length ∧ xs.length + ys.length ≤ sizeLine ∧
    Q (upd H l (.lst (xs.take lo.toNat ++ ys ++ xs.drop hi.toNat)))) := by
  intro pins s σ H o i v ov iv u Q I r1 r2 r3 h
  obtain ⟨l, b, sl, lo, hi, xs, ys, rfl, rfl, rfl, hl, hb, es, ne, h0, h1, h2, hz, q⟩ := h
  cases r1
  cases r2
  cases r3
  obtain ⟨t, u, hsl⟩ := slO_get I es
  exact set_slice I hl hb ne hsl ⟨_, rfl⟩ ⟨_, rfl⟩ h0 h1 h2 hz fun s' I' => ⟨_, I', q⟩
variable {e : Expr} {lo hi : Expr} {te : TE} {tl th : TE} {pos p2 : Pos}
theorem sub_own {x : Addr} {h₀ : Heap} {L : Addr} {m : Str → Option Value} {od : Option Obj} {ox : Obj} {prog : Program} {w : World} {A : Around} {E : Value → Shared → Prop} {s : Shared} {K : PySem.W.Frag} {value lo hi : Expr} {i : Value} {Q : Value → Shared → Prop} (hF : Fr h₀ L s.heap m) (hX : K.In h₀) (J : PySem.W.InstAt s.heap x ox C od) (M : Meth K C "__getitem__" f) (hn : PySem.W.noSeq K C = true) (hf : PySem.W.fnIn K f = true)
    (h : wpAny (model prog w) A (call (.ref f) [.ref x, i]) Q E s) : wpAny (model prog w) A (subscriptTail value (.Slice (some lo) (some hi) none p2) (.ref x) i) Q E s := by
  have Y := hX.keeps hF.keep
  unfold PySem.W.fnIn at hf
  split at hf
  · rename_i ef
    unfold subscriptTail getitemInPython
    refine wpAny_bind (wpAny_bind (wpAny_bind (J.type.here ((PySem.W.looks_findIn Y M.at_).here ?_))))
    dsimp only
    refine wpAny_bind (wpAny_load (Y _ _ ef) (wpAny_pure ?_))
    dsimp only
    show wpAny _ _ (operate [i, .ref x] (getItem (.ref x) i) >>= _) _ _ _
    refine wpAny_bind (wpAny_operating (PySem.W.getItem_K hF hX J hn M.at_ M.fn (wpAny_mono h (fun v s' z => ?_) fun _ _ z => z)))
    exact wpAny_bind (wpAny_letTemporaryGo (wpAny_pure z))
  · cases hf
theorem fn_in {x qual : Str} {st : Stmt} {g : Addr} {K : PySem.W.Frag} {gd : FuncData} (F : Fun K x qual st g gd) : PySem.W.fnIn K g = true := by
  obtain ⟨_, _, _, _, _, _, _, _, _, _, lk, _⟩ := F.ex
  unfold PySem.W.fnIn
  rw [lk]
/-- x[lo:hi] by the own __getitem__, nothing is raised -/
def tSlG (C : Addr) (sp : Sp) (te tl th : TE) : TE := fun σ H Q => te σ H fun x H1 => tl σ H1 fun l H2 => ∃ i, l = .int i ∧ th σ H2 fun u H3 => ∃ j, u = .int j ∧ ∃ (a dx : Addr) (fs : List (Str × V)), x = .ref a ∧ H3 a = some (.ins C dx fs) ∧ ∀ sl, H3 sl = none → sp [.ref a, .ref sl] (upd H3 sl (SlO sl i j)) Q E0
theorem pe_sliceG (M : Meth X.K C "__getitem__" f) (hn : PySem.W.noSeq X.K C = true) (hf : PySem.W.fnIn X.K f = true) (G : FnOk X.prog X.w X.K X.mg X.base (L2.CX X.prog X.w) k f fd ps sp) (hr : Room k X.A) (hb : Binds X.K fd ps []) (he : PE X e te) (hl : PE X lo tl) (hu : PE X hi th) : PE X (.Subscript e (.Slice (some lo) (some hi) none p2) pos) (tSlG C sp te tl th) := by
  refine ⟨fun pins s σ H Q I h => ?_⟩
  refine Subscript_ (thn (he.run pins s σ H _ I h) fun v s1 ⟨x, H1, I1, r1, q1⟩ => ?_)
  refine wpAny_Slice ?_
  rw [evalPart_some, evalPart_some, evalPart_none]
  refine thn (hl.run pins s1 σ H1 _ I1 q1) fun vl s2 ⟨l, H2, I2, r2, i, el, q2⟩ => thn (hu.run pins s2 σ H2 _ I2 q2) fun vu s3 ⟨u, H3, I3, r3, j, eu, a, dx, fs, ex, ea, q3⟩ => ?_
  subst el eu ex
  obtain ⟨t2, rfl⟩ := r2
  obtain ⟨t3, rfl⟩ := r3
  obtain rfl : v = Value.ref a := r1
  refine wpAny_pure ?_
  have nsl : H3 s3.heap.objs.size = none := I3.hok.fresh (Nat.le_refl _)
  have I4 := I3.laid (t' := s3.toks) (o := SlO s3.heap.objs.size i j) (fun b ob q => Heap.get?_push_of_some { cls := .type "slice", data := .fields #[.int i t2, .int j t3, .none] } q) (Nat.le_refl _) (slO_ok (Heap.IsSliceOf.new ..))
  have ea4 : upd H3 s3.heap.objs.size (SlO s3.heap.objs.size i j) a = some (.ins C dx fs) := by rw [upd_ne (ne_of_none ea nsl)]; exact ea
  obtain ⟨od, J⟩ := inst_at I4 ea4
  obtain ⟨m0, hF⟩ := I4.fr
  exact sub_own hF I4.ok.mod.kin J M hn hf (run_below (vs := [.ref a, .ref s3.heap.objs.size]) G hr rfl hb I4 (.cons rfl (.cons rfl .nil)) (q3 _ nsl))
/-- x[lo:hi] = v by the own __setitem__, nothing is raised -/
def gSlS (C : Addr) (sp : Sp) (te tl th : TE) : TG := fun v σ H Q => te σ H fun x H1 => tl σ H1 fun l H2 => ∃ i, l = .int i ∧ th σ H2 fun u H3 => ∃ j, u = .int j ∧ ∃ (a dx : Addr) (fs : List (Str × V)), x = .ref a ∧ H3 a = some (.ins C dx fs) ∧ ∀ sl, H3 sl = none → sp [.ref a, .ref sl, v] (upd H3 sl (SlO sl i j)) (fun _ H' => Q σ H') E0
theorem pg_sliceS (M : Meth X.K C "__setitem__" f) (hn : PySem.W.noSeq X.K C = true) (G : FnOk X.prog X.w X.K X.mg X.base (L2.CX X.prog X.w) k f fd ps sp) (hr : Room k X.A) (hb : Binds X.K fd ps []) (he : PE X e te) (hl : PE X lo tl) (hu : PE X hi th) : PG X (.Subscript e (.Slice (some lo) (some hi) none p2) pos) (gSlS C sp te tl th) := by
  refine ⟨fun pins s σ H v w Q I r h => ?_⟩
  show wpAny _ _ (do
    let ov ← holding [w] (eval e X.env)
    let iv ← holding [w, ov] (eval (.Slice (some lo) (some hi) none p2) X.env)
    standAt pos
    holding [w, ov, iv] (setItem ov iv w)
    release [iv, w, ov] []) _ _ _
  refine wpAny_bind (wpAny_holding (thn (he.run pins s σ H _ I h) fun ov s1 ⟨x, H1, I1, r1, q1⟩ => ?_))
  refine wpAny_bind (wpAny_holding (wpAny_Slice ?_))
  rw [evalPart_some, evalPart_some, evalPart_none]
  refine thn (hl.run pins s1 σ H1 _ I1 q1) fun vl s2 ⟨l, H2, I2, r2, i, el, q2⟩ => thn (hu.run pins s2 σ H2 _ I2 q2) fun vu s3 ⟨u, H3, I3, r3, j, eu, a, dx, fs, ex, ea, q3⟩ => ?_
  subst el eu ex
  obtain ⟨t2, rfl⟩ := r2
  obtain ⟨t3, rfl⟩ := r3
  obtain rfl : ov = Value.ref a := r1
  refine wpAny_pure ?_
  have nsl : H3 s3.heap.objs.size = none := I3.hok.fresh (Nat.le_refl _)
  have I4 := I3.laid (t' := s3.toks) (o := SlO s3.heap.objs.size i j) (fun b ob q => Heap.get?_push_of_some { cls := .type "slice", data := .fields #[.int i t2, .int j t3, .none] } q) (Nat.le_refl _) (slO_ok (Heap.IsSliceOf.new ..))
  have ea4 : upd H3 s3.heap.objs.size (SlO s3.heap.objs.size i j) a = some (.ins C dx fs) := by rw [upd_ne (ne_of_none ea nsl)]; exact ea
  obtain ⟨od, J⟩ := inst_at I4 ea4
  obtain ⟨m0, hF⟩ := I4.fr
  refine wpAny_bind (wpAny_standAt (wpAny_bind (wpAny_holding (PySem.W.ksp_setItem hF I4.ok.mod.kin J hn M.at_ M.fn (wpAny_mono (run_below (vs := [.ref a, .ref s3.heap.objs.size, v]) G hr rfl hb I4 (.cons rfl (.cons rfl (.cons r .nil))) (q3 _ nsl)) (fun r s' hv => ?_) fun _ _ z => z)))))
  obtain ⟨z, H', J', rz, q⟩ := hv
  exact wpAny_release ⟨σ, H', J', q⟩
/-- x[i] by the own __getitem__, that may raise -/
def tGetO (C : Addr) (sp : Sp) (E : EX) (te ti : TE) : TE := fun σ H Q => te σ H fun x H1 => ti σ H1 fun i H2 => ∃ (a dx : Addr) (fs : List (Str × V)), x = .ref a ∧ H2 a = some (.ins C dx fs) ∧ sp [.ref a, i] H2 Q (E σ)
theorem pe_getO {CX : CXT} {E : EX} {b : Expr} {ti : TE} (M : Meth X.K C "__getitem__" f) (hf : PySem.W.fnIn X.K f = true) (G : FnOk X.prog X.w X.K X.mg X.base CX k f fd ps sp) (hr : Room (k + 1) X.A) (hb : Binds X.K fd ps []) (hx : ∀ σ, PassesAt CX X σ (E σ)) (he : PE X e te) (hi : PE X b ti)
    (hsl : ∀ x i, subscripted b true (.ref x) i = runValue (.builtin "lifetime.subscript" ⟨[.ref x, i], []⟩) := by intro _ _; rfl) : PE X (.Subscript e b pos) (tGetO C sp E te ti) := by
  refine ⟨fun pins s σ H Q I h => ?_⟩
  refine Subscript_ (thn (he.run pins s σ H _ I h) fun v s1 ⟨x, H1, I1, r1, q1⟩ => thn (hi.run pins s1 σ H1 _ I1 q1) fun u s2 ⟨y, H2, I2, r2, a, dx, fs, ex, ea, q2⟩ => ?_)
  subst ex
  obtain rfl : v = Value.ref a := r1
  obtain ⟨od, J⟩ := inst_at I2 ea
  obtain ⟨m0, hF⟩ := I2.fr
  exact PySem.W.sub_K hF I2.ok.mod.kin J M.at_ hf M.fn (wpAny_call (codeAny_mono (run_X (vs := [.ref a, y]) G hr.in1 rfl hb .nil (hx σ) I2 (.cons rfl (.cons r2 .nil)) (by rw [List.append_nil]; exact q2)) fun _ _ hq => ended hq)) (hsl _ _)
/-- x[i] = v by the own __setitem__, that may raise -/
def gSetX (C : Addr) (sp : Sp) (E : EX) (te ti : TE) : TG := fun v σ H Q => te σ H fun x H1 => ti σ H1 fun i H2 => ∃ (a dx : Addr) (fs : List (Str × V)), x = .ref a ∧ H2 a = some (.ins C dx fs) ∧ sp [.ref a, i, v] H2 (fun _ H' => Q σ H') (E σ)
theorem pg_setX {CX : CXT} {E : EX} {b : Expr} {ti : TE} (M : Meth X.K C "__setitem__" f) (hn : PySem.W.noSeq X.K C = true) (G : FnOk X.prog X.w X.K X.mg X.base CX k f fd ps sp) (hr : Room k X.A) (hb : Binds X.K fd ps []) (hx : ∀ σ, PassesAt CX X σ (E σ)) (he : PE X e te) (hi : PE X b ti)
    (ha : ∀ v, assign (.Subscript e b pos) X.env v = (do
      let ov ← holding [v] (eval e X.env)
      let iv ← holding [v, ov] (eval b X.env)
      standAt pos
      holding [v, ov, iv] (setItem ov iv v)
      release [v, ov, iv] []) := by intro _; rfl) : PG X (.Subscript e b pos) (gSetX C sp E te ti) := by
  refine ⟨fun pins s σ H v w Q I r h => ?_⟩
  rw [ha]
  refine wpAny_bind (wpAny_holding (thn (he.run pins s σ H _ I h) fun ov s1 ⟨x, H1, I1, r1, q1⟩ => ?_))
  refine wpAny_bind (wpAny_holding (thn (hi.run pins s1 σ H1 _ I1 q1) fun iv s2 ⟨y, H2, I2, r2, a, dx, fs, ex, ea, q2⟩ => ?_))
  subst ex
  obtain rfl : ov = Value.ref a := r1
  obtain ⟨od, J⟩ := inst_at I2 ea
  obtain ⟨m0, hF⟩ := I2.fr
  refine wpAny_bind (wpAny_standAt (wpAny_bind (wpAny_holding (PySem.W.ksp_setItem hF I2.ok.mod.kin J hn M.at_ M.fn (wpAny_mono (run_XC (vs := [.ref a, y, v]) G hr hb .nil (hx σ) I2 (.cons rfl (.cons r2 (.cons r .nil))) (by rw [List.append_nil]; exact q2)) (fun r s' hv => ?_) fun _ _ z => z)))))
  obtain ⟨z, H', J', rz, q⟩ := hv
  exact wpAny_release ⟨σ, H', J', q⟩
end
end Rz
namespace Rz
open PySem PySem.Spec PyProof.Rows L2
theorem PAt.nth {H : Hp} : ∀ {ts : List Addr} {ps : List Pr} {i : Nat} {p : Pr}, PAt H ts ps → ps[i]? = some p → ∃ t, ts[i]? = some t ∧ H t = some (.tup (prV p))
  | _, _, i, p, .nil, h => by cases h
  | _, _, 0, p, .cons e r, h => by
    have z := Option.some.inj h
    subst z
    exact ⟨_, rfl, e⟩
  | _, _, i + 1, p, .cons e r, h => PAt.nth (i := i) r (by simpa using h)
theorem ref_nth {ts : List Addr} {i : Nat} {t : Addr} (h : ts[i]? = some t) : (ts.map V.ref)[i]? = some (.ref t) := by
  rw [List.getElem?_map, h]
  rfl
theorem PAt.take {H : Hp} : ∀ {ts : List Addr} {ps : List Pr} (n : Nat), PAt H ts ps → PAt H (ts.take n) (ps.take n)
  | _, _, 0, _ => .nil
  | _, _, _ + 1, .nil => .nil
  | _, _, n + 1, .cons e r => .cons e (PAt.take n r)
theorem PAt.drop {H : Hp} : ∀ {ts : List Addr} {ps : List Pr} (n : Nat), PAt H ts ps → PAt H (ts.drop n) (ps.drop n)
  | _, _, 0, h => h
  | _, _, _ + 1, .nil => .nil
  | _, _, n + 1, .cons _ r => PAt.drop n r
theorem cutV_nat {xs : List V} {i j : Nat} (h : i ≤ j) (hj : j ≤ xs.length) : cutV xs (some (i : Int)) (some (j : Int)) = (xs.drop i).take (j - i) := by
  have e1 : HT.sIx xs.length 0 (some (i : Int)) = i := by
    unfold HT.sIx
    simp only
    rw [if_neg (by omega), Int.toNat_natCast]
    omega
  have e2 : HT.sIx xs.length xs.length (some (j : Int)) = j := by
    unfold HT.sIx
    simp only
    rw [if_neg (by omega), Int.toNat_natCast]
    omega
  unfold cutV
  rw [e1, e2]
end Rz

namespace Rz
open PySem PySem.Spec PyProof.Rows L2
/-! ### lists of pairs: joined, cut, copied, written out; the heap is let go of -/
theorem cutV_to {xs : List V} {j : Nat} (hj : j ≤ xs.length) : cutV xs none (some (j : Int)) = xs.take j := by
  have e1 : HT.sIx xs.length 0 none = 0 := rfl
  have e2 : HT.sIx xs.length xs.length (some (j : Int)) = j := by
    unfold HT.sIx
    simp only
    rw [if_neg (by omega), Int.toNat_natCast]
    omega
  unfold cutV
  rw [e1, e2, List.drop_zero, Nat.sub_zero]
theorem cutV_from {xs : List V} {i : Nat} (hi : i ≤ xs.length) : cutV xs (some (i : Int)) none = xs.drop i := by
  have e1 : HT.sIx xs.length 0 (some (i : Int)) = i := by
    unfold HT.sIx
    simp only
    rw [if_neg (by omega), Int.toNat_natCast]
    omega
  have e2 : HT.sIx xs.length xs.length none = xs.length := rfl
  unfold cutV
  rw [e1, e2, List.take_of_length_le (by rw [List.length_drop]; exact Nat.le_refl _)]
/-- len(xs), list(xs) of a list, by names that are not opened -/
@[irreducible] def rLenS (K : PySem.W.Frag) : List V → Hp → VK → Prop := fun xs H Q => ∃ p ys, xs = [.ref p] ∧ SqL K H p ys ∧ Q (.int ys.length) H
theorem call_lenS {X : Cx} : CallR X (.builtin "len") (rLenS X.K) := by
  intro pins s σ H xs us Q I r h
  unfold rLenS at h
  obtain ⟨p, ys, e, h1, q⟩ := h
  exact call_len_seq pins s σ H xs us Q I r ⟨p, ys, e, .inl h1, q⟩
@[irreducible] def rListS (K : PySem.W.Frag) : List V → Hp → VK → Prop := fun xs H Q => ∃ p ys, xs = [.ref p] ∧ SqL K H p ys ∧ ∀ l, H l = none → Q (.ref l) (upd H l (.lst ys))
theorem call_listS {X : Cx} : CallR X (.type "list") (rListS X.K) := by
  intro pins s σ H xs us Q I r h
  unfold rListS at h
  obtain ⟨p, ys, e, h1, q⟩ := h
  exact call_list_of pins s σ H xs us Q I r ⟨p, ys, e, .inl h1, q⟩
section
variable {K : PySem.W.Frag} {H : Hp} {l m : Addr} {us vs : List Pr} {Q : VK}
theorem cat_go (hu : LAt H l us) (hv : LAt H m vs) (hz : us.length + vs.length ≤ 1000000) (k : ∀ (p : Addr) (H' : Hp), H p = none → Same H H' → LAt H' p (us ++ vs) → Q (.ref p) H') : rCat (.ref l) (.ref m) H Q := by
  obtain ⟨ts, e1, P1⟩ := hu
  obtain ⟨ws, e2, P2⟩ := hv
  refine ⟨l, m, _, _, rfl, rfl, e1, e2, by rw [List.length_map, List.length_map, P1.length, P2.length, sizeLine_eq]; omega, fun p hp => ?_⟩
  have S := Rz.Same.new (o := .lst (ts.map V.ref ++ ws.map V.ref)) (Same.refl H) hp
  exact k p _ hp S ⟨ts ++ ws, by rw [upd_same, List.map_append], (P1.append P2).keep (Tups.of S)⟩
theorem to_go {j : Nat} (hu : LAt H l us) (hj : j ≤ us.length) (k : ∀ (p : Addr) (H' : Hp), H p = none → Same H H' → LAt H' p (us.take j) → Q (.ref p) H') : rSlL K (.ref l) none (some (j : Int)) H Q := by
  obtain ⟨ts, e1, P1⟩ := hu
  refine ⟨l, _, rfl, SqL.of e1, fun p hp => ?_⟩
  have S := Rz.Same.new (o := .lst (cutV (ts.map V.ref) none (some (j : Int)))) (Same.refl H) hp
  exact k p _ hp S ⟨ts.take j, by rw [upd_same, cutV_to (by rw [List.length_map, P1.length]; exact hj), List.map_take], (P1.take j).keep (Tups.of S)⟩
theorem from_go {i : Nat} {σ : L2.St} (hu : LAt H l us) (hi : i ≤ us.length) (k : ∀ (p : Addr) (H' : Hp), H p = none → Same H H' → LAt H' p (us.drop i) → Q (.ref p) H') : tNoPart σ H fun u H3 => rSlL K (.ref l) (some (i : Int)) u H3 Q := by
  obtain ⟨ts, e1, P1⟩ := hu
  refine ⟨l, _, rfl, SqL.of e1, fun p hp => ?_⟩
  have S := Rz.Same.new (o := .lst (cutV (ts.map V.ref) (some (i : Int)) none)) (Same.refl H) hp
  exact k p _ hp S ⟨ts.drop i, by rw [upd_same, cutV_from (by rw [List.length_map, P1.length]; exact hi), List.map_drop], (P1.drop i).keep (Tups.of S)⟩
theorem mid_go {i j : Nat} (hu : LAt H l us) (hij : i ≤ j) (hj : j ≤ us.length) (k : ∀ (p : Addr) (H' : Hp), H p = none → Same H H' → LAt H' p ((us.drop i).take (j - i)) → Q (.ref p) H') : rSlL K (.ref l) (some (i : Int)) (some (j : Int)) H Q := by
  obtain ⟨ts, e1, P1⟩ := hu
  refine ⟨l, _, rfl, SqL.of e1, fun p hp => ?_⟩
  have S := Rz.Same.new (o := .lst (cutV (ts.map V.ref) (some (i : Int)) (some (j : Int)))) (Same.refl H) hp
  exact k p _ hp S ⟨(ts.drop i).take (j - i), by rw [upd_same, cutV_nat hij (by rw [List.length_map, P1.length]; exact hj), List.map_take, List.map_drop], ((P1.drop i).take (j - i)).keep (Tups.of S)⟩
/-- list(xs) -/
theorem copy_go (hu : LAt H l us) (k : ∀ (p : Addr) (H' : Hp), H p = none → Same H H' → LAt H' p us → Q (.ref p) H') : rListS K [V.ref l] H Q := by
  obtain ⟨ts, e1, P1⟩ := hu
  unfold rListS
  refine ⟨l, _, rfl, SqL.of e1, fun p hp => ?_⟩
  have S := Rz.Same.new (o := .lst (ts.map V.ref)) (Same.refl H) hp
  exact k p _ hp S ⟨ts, upd_same, P1.keep (Tups.of S)⟩
/-- len(xs) of such a list -/
theorem len_go (hu : LAt H l us) (k : Q (.int (us.length : Nat)) H) : rLenS K [V.ref l] H Q := by
  obtain ⟨ts, e1, P1⟩ := hu
  unfold rLenS
  exact ⟨l, _, rfl, SqL.of e1, by rw [List.length_map, P1.length]; exact k⟩
end
theorem good_take {ps : List Pr} (h : GoodR ps) (n : Nat) : GoodR (ps.take n) := fun p hp => h p (List.mem_of_mem_take hp)
theorem good_drop {ps : List Pr} (h : GoodR ps) (n : Nat) : GoodR (ps.drop n) := fun p hp => h p (List.mem_of_mem_drop hp)
theorem good_cat {ps qs : List Pr} (h : GoodR ps) (g : GoodR qs) : GoodR (ps ++ qs) := fun p hp => (List.mem_append.mp hp).elim (h p) (g p)
theorem good_put {ps : List Pr} {p : Pr} (h : GoodR ps) (g : oddC p.1 = false ∧ 0 ≤ p.2 ∧ p.2 ≤ 9) (i : Nat) : GoodR (ps.set i p) := fun q hq => (List.mem_or_eq_of_mem_set hq).elim (h q) fun e => by rw [e]; exact g
end Rz
namespace Rz
open PySem PySem.Spec PyProof.Rows L2
/-! ### C(..), its wish by a name that is not opened -/
@[irreducible] def MkR (C : Addr) (sp : Sp) (dvs : List V) (E : XK) (vs : List V) (H : Hp) (Q : VK) : Prop := ∀ x dx, H x = none → H dx = none → dx ≠ x → sp (.ref x :: (vs ++ dvs)) (upd (upd H dx (.own x)) x (.ins C dx [])) (fun v H2 => v = .non ∧ Q (.ref x) H2) E
theorem mkR_eq {C : Addr} {sp : Sp} {dvs : List V} {E : XK} {vs : List V} {H : Hp} {Q : VK} : MkR C sp dvs E vs H Q = ∀ x dx, H x = none → H dx = none → dx ≠ x → sp (.ref x :: (vs ++ dvs)) (upd (upd H dx (.own x)) x (.ins C dx [])) (fun v H2 => v = .non ∧ Q (.ref x) H2) E := by
  unfold MkR
  rfl
def tMkR (C : Addr) (sp : Sp) (dvs : List V) (E : EX) (t : TA) : TE := fun σ H Q => t σ H fun vs H1 => MkR C sp dvs (E σ) vs H1 Q
theorem tMkR_eq {C : Addr} {sp : Sp} {dvs : List V} {E : EX} {t : TA} : tMkR C sp dvs E t = tMk C sp dvs E t := by
  funext σ H Q
  unfold tMkR tMk
  simp only [mkR_eq]
section
variable {X : Cx} {CX : CXT} {k : Nat} {f C : Addr} {fd : FuncData} {ps : List Str} {sp : Sp} {dvs : List V} {ds : List Value} {E : EX} {x : Str} {p pos : Pos} {e : Expr} {es : List Expr} {t : TA}
theorem pe_mkR (M : Mk X.K C f) (F : FnOk X.prog X.w X.K X.mg X.base CX k f fd ps sp) (hr : Room (k + 1) X.A) (hg : Gl X x) (hm : X.mg x = some (.ref C)) (hb : Binds X.K fd ps ds) (hd : Vals dvs ds) (hx : ∀ σ, PassesAt CX X σ (E σ))
    (ha : PA X (e :: es) t) (hdb : (x == ("__debug__" : Str)) = false := by decide) (he : starEach (e :: es) X.env = (false, eval e X.env) :: starEach es X.env := by rfl) (hpl : (backTo pos (starEach es X.env)).any (·.1) = false := by rfl) :
    PE X (.Call (.Name x p) (e :: es) [] pos) (tMkR C sp dvs E t) := by
  rw [tMkR_eq]
  exact pe_mk M F hr hg hm hb hd hx ha hdb he hpl
theorem pe_mkR0 (M : Mk X.K C f) (F : FnOk X.prog X.w X.K X.mg X.base CX k f fd ps sp) (hr : Room (k + 1) X.A) (hg : Gl X x) (hm : X.mg x = some (.ref C)) (hb : Binds X.K fd ps ds) (hd : Vals dvs ds) (hx : ∀ σ, PassesAt CX X σ (E σ))
    (hdb : (x == ("__debug__" : Str)) = false := by decide) : PE X (.Call (.Name x p) [] [] pos) (tMkR C sp dvs E tNil) := by
  rw [tMkR_eq]
  exact pe_mk0 M F hr hg hm hb hd hx hdb
end
end Rz
namespace Rz
open PySem PySem.Spec PyProof.Rows L2
theorem drT {H H' : Hp} {d : Addr} (D : Dr H d) (B : But [d] H H') : Tups H H' := Tups.but B fun b hb xs e => by
  have e2 : b = d := by simpa using hb
  obtain ⟨ns, q, _⟩ := D
  rw [e2, q] at e
  cases e
theorem evC {c : Nat} (h : c ∈ abc.cps.toList) : oddC c = false := by
  unfold oddC
  rw [decide_eq_true h]
  rfl
end Rz

namespace Rz
open PySem PySem.Spec PyProof.Rows L2
/-! ### own comparisons that give NotImplemented -/
/-- the def gives NotImplemented and changes nothing -/
def NiOk (P : Program) (w : World) (K : PySem.W.Frag) (mg : Str → Option Value) (base : Heap) (k : Nat) (f : Addr) (fd : FuncData) (ps : List Str) (pre : List V → Hp → Prop) : Prop :=
  ∀ (A : Around) (outer : List Env) (s : Shared) (H : Hp) (args : Args) (us : List Value) (vs : List V), Room k A → Env0 P w K mg base A outer s H → BindsTo s fd args (ps.zip us) → Vals vs us → vs.length = ps.length → pre vs H →
    codeAny (model P w) A (.call (.ref f) args) (fun q s' => match q with
      | .ok (.ret u) => u = .notImplemented ∧ CE outer P w H s (fun v H' => v = .non ∧ H' = H) Value.none s'
      | .ok _ => False
      | .error e => L2.CX P w outer H s E0 e s') s
theorem ni_of {P : Program} {w : World} {K : PySem.W.Frag} {mg : Str → Option Value} {base : Heap} {k : Nat} {x qual : Str} {st : Stmt} {f : Addr} {fd : FuncData} {N ps : List Str} {pre : List V → Hp → Prop} {c : Expr} {p1 p2 p3 : Pos} {rest : List Stmt} (F : Fun K x qual st f fd) (S : FnScope N ps (defScope st))
    (hst : defBody st = .If c [.Return (some (.Name "NotImplemented" p1)) p2] [] p3 :: rest)
    (hbody : ∀ (cdv : Value) (A : Around) (outer : List Env) (s : Shared) (H : Hp) (vs : List V), Room k (A.deeper (envOfC qual (defScope st) s.heap.objs.size f cdv)) → pre vs H →
      Gl (cxOf (L2.CX P w) P w K mg base N qual (defScope st) f cdv A outer s H E0) "NotImplemented" ∧ mg "NotImplemented" = none ∧
      ∃ t, PT (cxOf (L2.CX P w) P w K mg base N qual (defScope st) f cdv A outer s H E0) c t ∧ t (start N vs) H (fun b H' => b = true ∧ H' = H)) : NiOk P w K mg base (k + 1) f fd ps pre := by
  intro A outer s H args us vs hr e0 hb r hl hpre
  obtain ⟨oc, od, kV, doc, pm, an, cdv, ct, osl, rfl, lk, hcd⟩ := F.ex
  have KX : K.In s.heap := e0.mod.kin.keeps fun b o e => (e0.bs b o e).1
  have lim : s.heap.NoLimit := e0.mod.nolimit.keeps fun b o e => (e0.bs b o e).1
  have hkind : ∀ y ∈ ps.zip us, (defScope st).names.lookup y.1 = some .local ∨ ((defScope st).names.lookup y.1 = some .cell ∧ ((cellsFrom (s.heap.objs.size + 1) (defScope st).names []).lookup y.1).isSome = true) := fun ⟨n, v⟩ hy => by
    rcases S.par n (List.of_mem_zip hy).1 with q | q
    · exact .inl q
    · exact .inr ⟨q, PySem.W.cellsFrom_some _ _ _ (.inl q)⟩
  refine codeAny_call_function hr.depth (KX _ _ lk) rfl S.co S.gen rfl (PySem.W.codeRec_of KX hcd) (hb _ _ _ _ ?_)
  refine wpAny_newFunctionEnv_cells S.kind hkind fun env he s1 xx => ?_
  subst he
  refine ⟨lim.keeps xx.toInCall.keep, codeAny_func ?_⟩
  obtain ⟨hg, hm, t, hc, hq⟩ := hbody cdv A outer s H vs (hr.deeper _) hpre
  have I : Inv (cxOf (L2.CX P w) P w K mg base N qual (defScope st) f cdv A outer s H E0) [] (start N vs) H s1 := inv_start S hr.hd e0 hl r xx
  show wpAny _ _ (execs (defBody st) _) _ _ _
  rw [hst]
  refine wpAny_execs_cons (wpAny_If ?_)
  refine wpAny_mono (hc.run [] s1 (start N vs) H _ I hq) (fun b s2 hs => ?_) (fun e s' hs => ?_)
  · obtain ⟨H2, I2, rfl, rfl⟩ := hs
    show wpAny _ _ (execs [_] _) _ _ _
    refine wpAny_execs_cons (wpAny_Return_some (ld_blt (u := .notImplemented) I2 hg hm (by decide +kernel) ?_ (by decide) (by decide)))
    exact ⟨rfl, .non, H2, I2.os, I2.bare, I2.base, I2.hok, rfl, rfl, rfl⟩
  · exact hs
section
variable {X : Cx} {k : Nat} {f C a : Addr} {fd : FuncData} {ps : List Str} {pre : List V → Hp → Prop} {pins : List (Addr × Obj)} {σ : L2.St} {H : Hp} {s : Shared} {A : Around} {E' : Value → Shared → Prop}
/-- the def called somewhere below the running body -/
theorem run_ni {us : List Value} {vs : List V} (F : NiOk X.prog X.w X.K X.mg X.base k f fd ps pre) (hr : Room k A) (hfr : A.frames = X.A.frames) (hb : Binds X.K fd ps []) (I : Inv X pins σ H s) (r : Vals vs us) (hl : vs.length = ps.length) (h : pre vs H) :
    wpAny (model X.prog X.w) A (call (.ref f) us) (fun v s' => v = .notImplemented ∧ Inv X pins σ H s') E' s := by
  have e0 : Env0 X.prog X.w X.K X.mg X.base A X.stack s H := by
    have z := I.env0
    exact ⟨by rw [hfr]; exact z.frames, z.mod, z.bs, z.bsz, z.funs, z.frf, z.hok, z.bare⟩
  have hz : us.length = ps.length := r.length.symm.trans hl
  have hbb := hb s us I.kIn (by rw [List.append_nil]; exact hz)
  rw [List.append_nil] at hbb
  refine wpAny_call (codeAny_mono (F A X.stack s H ⟨us, []⟩ us vs hr e0 hbb r hl h) fun q s' hq => ?_)
  match q, hq with
  | .error er, hq =>
    obtain ⟨_, _, _, _, _, _, _, _, _, _, _, _, z⟩ := hq
    exact z.elim
  | .ok (.ret u), hq =>
    obtain ⟨rfl, hce⟩ := hq
    obtain ⟨v, H', J, _, _, rfl⟩ := I.after (Q := fun v H' => v = .non ∧ H' = H) hce
    exact ⟨rfl, J⟩
  | .ok .next, hq => exact hq.elim
  | .ok .brk, hq => exact hq.elim
  | .ok .cont, hq => exact hq.elim
end
end Rz

namespace Rz
open PySem PySem.Spec PyProof.Rows L2
/-! ### a comparison with something of another kind -/
theorem subT {K : PySem.W.Frag} {C : Addr} {n : String} {ms : List Value} (e : fastBuiltinMro n = some ms) (h : ms.contains (.ref C) = false) : PySem.W.subIn K (.type n) (.ref C) = some false := by
  show (fastBuiltinMro n).map (·.contains (.ref C)) = some false
  rw [e, Option.map_some, h]
theorem sub_str {K : PySem.W.Frag} {C : Addr} : PySem.W.subIn K (.type "str") (.ref C) = some false :=
  subT (ms := [.type "str", .type "object"]) (by decide +kernel) (by first | rfl | simp)
theorem sub_lst {K : PySem.W.Frag} {C : Addr} : PySem.W.subIn K (.type "list") (.ref C) = some false :=
  subT (ms := [.type "list", .type "object"]) (by decide +kernel) (by first | rfl | simp)
section
variable {X : Cx} {k : Nat} {f C a dx : Addr} {fs : List (Str × V)} {fd : FuncData} {ps : List Str} {pre : List V → Hp → Prop} {pins : List (Addr × Obj)} {σ : L2.St} {H : Hp} {s : Shared} {A : Around} {E' : Value → Shared → Prop}
/-- the own __eq__ declines -/
theorem try_ni {y : V} {u : Value} (M : Meth X.K C "__eq__" f) (F : NiOk X.prog X.w X.K X.mg X.base k f fd ps pre) (hr : Room k A) (hfr : A.frames = X.A.frames) (hb : Binds X.K fd ps []) (hl : ps.length = 2) (I : Inv X pins σ H s)
    (ea : H a = some (.ins C dx fs)) (r : RelV y u) (h : pre [.ref a, y] H) : wpAny (model X.prog X.w) A (tryCompare (.ref a) "__eq__" u) (fun r s' => r = none ∧ Inv X pins σ H s') E' s := by
  obtain ⟨od, J⟩ := inst_at I ea
  unfold tryCompare
  refine wpAny_bind (PySem.W.ifBound_K I.kIn J M.at_ M.fn (wpAny_mono (run_ni (vs := [.ref a, y]) F hr hfr hb I (.cons rfl (.cons r .nil)) hl.symm h) (fun v s' hv => ?_) fun _ _ z => z))
  obtain ⟨rfl, J⟩ := hv
  exact wpAny_pure ⟨rfl, J⟩
theorem ifBound_objNe {M : Model} {E : Value → Shared → Prop} {K : PySem.W.Frag} {x : Addr} {ox : Obj} {od : Option Obj} {args : List Value} {Q : Option Value → Shared → Prop} (Xk : K.In s.heap) (J : PySem.W.InstAt s.heap x ox C od) (hs : PySem.W.findIn K (.ref C) "__ne__" = some (some (.builtin "object.__ne__")))
    (h : wpAny M A (call (.builtin "object.__ne__") (.ref x :: args)) (fun v => Q (some v)) E s) : wpAny M A (callSpecialIfBound? (.ref x) "__ne__" args) Q E s := by
  simp only [callSpecialIfBound?, bindSpecialIfBound?]
  refine wpAny_holding (wpAny_bind (wpAny_bind (wpAny_bind (J.type.here ((PySem.W.looks_findIn Xk hs).here ?_)))))
  refine wpAny_bind (wpAny_askSetting (wpAny_ite ?_))
  have fin : wpAny M A (call (.builtin "object.__ne__") ([.ref x] ++ args) >>= fun v => pure (some v)) Q E s := wpAny_bind (wpAny_mono h (fun v s' h' => wpAny_pure h') fun _ _ h' => h')
  split
  · exact wpAny_bind (wpAny_of_eq (PySem.F.cmp_object.ne.bind _) (wpAny_pure (by exact fin)))
  · exact wpAny_tryCatch (wpAny_bind (wpAny_of_eq (PySem.F.cmp_object.ne.bind _) (wpAny_pure (by exact fin))))
/-- object.__ne__ as the class's own, called by the comparison -/
theorem ifBound_ne {prog : Program} {w : World} {K : PySem.W.Frag} {x : Addr} {ox : Obj} {od : Option Obj} {E : Value → Shared → Prop} {u : Value} {Q : Option Value → Shared → Prop} (Xk : K.In s.heap) (J : PySem.W.InstAt s.heap x ox C od) (hm : PySem.W.mroIn K C (.type "object") = some true)
    (hs : PySem.W.findIn K (.ref C) "__ne__" = some (some (.builtin "object.__ne__")))
    (h : wpAny (model prog w) A.in1 (Builtin.«object.__ne__» ⟨[.ref x, u], []⟩) (fun fin s' => match fin with | .done (.ret v) => Q (some v) s' | _ => False) E s) : wpAny (model prog w) A (callSpecialIfBound? (.ref x) "__ne__" [u]) Q E s := by
  have one : wpAny (model prog w) A (call (.builtin "object.__ne__") [.ref x, u]) (fun v => Q (some v)) E s := by
    refine wpAny_call (codeAny_call_builtin PySem.F.cmp_object.ne.plain PySem.F.cmpEntry_ne (PySem.W.check_slot PySem.F.cmpKind_ne PySem.F.cmpSplit_ne (J.type.andThen (PySem.W.looks_mroIn Xk hm)) (PySem.F.cmpArgs_ne _ _) (wpAny_mono h (fun fin s' hf => ?_) fun _ _ e => e)))
    rcases fin with (v | _ | _ | _) | c
    all_goals first | exact hf | exact hf.elim
  exact ifBound_objNe Xk J hs one
/-- what object.__ne__ makes of the own __eq__ -/
theorem ne_entry {prog : Program} {w : World} {x : Addr} {u : Value} {E : Value → Shared → Prop} {Q : Fin → Shared → Prop} (hu : A.units < cLine)
    (h : wpAny (model prog w) A (callSpecialIfBound? (.ref x) "__eq__" [u]) (fun r s' => (r = some .notImplemented ∧ Q (.done (.ret .notImplemented)) s') ∨ ∃ b, r = some (.bool b) ∧ Q (.done (.ret (.bool (!b)))) s') E s) :
    wpAny (model prog w) A (Builtin.«object.__ne__» ⟨[.ref x, u], []⟩) Q E s := by
  unfold Builtin.«object.__ne__»
  repeat (first
    | with_reducible refine wpAny_cRoomFor hu ?_
    | (refine wpAny_bind (m := callSpecialIfBound? (.ref x) (Str.ofString "__eq__") [u]) (wpAny_mono h (fun r s' hr => by
          rcases hr with ⟨rfl, hq⟩ | ⟨b, rfl, hq⟩
          · repeat (first | exact hq | exact wpAny_pure hq | wp_step)
          · repeat (first | exact hq | exact wpAny_pure hq | exact wpAny_truthy_bool hq | (refine wpAny_bind (m := truthy (.bool _)) (wpAny_truthy_bool ?_)) | wp_step)) fun _ _ e => e))
    | wp_step)
theorem ifBound_eqNi {y : V} {u : Value} (M : Meth X.K C "__eq__" f) (F : NiOk X.prog X.w X.K X.mg X.base k f fd ps pre) (hr : Room k A) (hfr : A.frames = X.A.frames) (hb : Binds X.K fd ps []) (hl : ps.length = 2) (I : Inv X pins σ H s)
    (ea : H a = some (.ins C dx fs)) (r : RelV y u) (h : pre [.ref a, y] H) : wpAny (model X.prog X.w) A (callSpecialIfBound? (.ref a) "__eq__" [u]) (fun r s' => r = some .notImplemented ∧ Inv X pins σ H s') E' s := by
  obtain ⟨od, J⟩ := inst_at I ea
  refine PySem.W.ifBound_K I.kIn J M.at_ M.fn (wpAny_mono (run_ni (vs := [.ref a, y]) F hr hfr hb I (.cons rfl (.cons r .nil)) hl.symm h) (fun v s' hv => ?_) fun _ _ z => z)
  obtain ⟨rfl, J⟩ := hv
  exact ⟨rfl, J⟩
theorem try_niNe {y : V} {u : Value} (M : Meth X.K C "__eq__" f) (F : NiOk X.prog X.w X.K X.mg X.base k f fd ps pre) (hr : Room (k + 1) A) (hfr : A.frames = X.A.frames) (hb : Binds X.K fd ps []) (hl : ps.length = 2) (hm : PySem.W.mroIn X.K C (.type "object") = some true)
    (hs : PySem.W.findIn X.K (.ref C) "__ne__" = some (some (.builtin "object.__ne__"))) (I : Inv X pins σ H s) (ea : H a = some (.ins C dx fs)) (r : RelV y u) (h : pre [.ref a, y] H) : wpAny (model X.prog X.w) A (tryCompare (.ref a) "__ne__" u) (fun r s' => r = none ∧ Inv X pins σ H s') E' s := by
  obtain ⟨od, J⟩ := inst_at I ea
  unfold tryCompare
  refine wpAny_bind (ifBound_ne I.kIn J hm hs (ne_entry hr.in1.units0 (wpAny_mono (ifBound_eqNi M F hr.in1 hfr hb hl I ea r h) (fun v s' hv => ?_) fun _ _ z => z)))
  exact .inl ⟨hv.1, wpAny_pure ⟨rfl, hv.2⟩⟩
/-- what is left of == and != when both sides decline -/
theorem rc_decline {op : CmpOp} {x : Addr} {b : Value} {n : String} {Q : Value → Shared → Prop} {bb : Bool} (hop : (op = .Eq ∧ bb = false) ∨ (op = .NotEq ∧ bb = true)) (hu : A.units < cLine) (I : Inv X pins σ H s) (ea : H x = some (.ins C dx fs))
    (hb : ∀ s : Shared, Inv X pins σ H s → s.TypeIs b n) (hsub : PySem.W.subIn X.K (.type n) (.ref C) = some false)
    (one : wpAny (model X.prog X.w) A (tryCompare (.ref x) (cmpInfo op).2.1 b) (fun r s' => r = none ∧ Inv X pins σ H s') E' s)
    (two : ∀ s', Inv X pins σ H s' → wpAny (model X.prog X.w) A (tryCompare b (cmpInfo op).2.2 (.ref x)) (fun r s2 => r = none ∧ Inv X pins σ H s2) E' s')
    (hk : ∀ (R : Bool → Shared → Prop) s', Inv X pins σ H s' → R false s' → wpAny (model X.prog X.w) A (isSame (.ref x) b) R E' s')
    (h : ∀ s', Inv X pins σ H s' → Q (.bool bb) s') : wpAny (model X.prog X.w) A (richCompare op (.ref x) b) Q E' s := by
  obtain ⟨od, J⟩ := inst_at I ea
  unfold richCompare
  simp only [oneThing_ref]
  refine wpAny_holding (wpAny_bind (wpAny_cRoomFor hu ?_))
  refine wpAny_bind (J.type.here ?_)
  refine wpAny_bind (wpAny_typeOf (hb s I) ?_)
  split
  · refine wpAny_bind ((PySem.W.looks_subIn I.kIn hsub).here ?_)
    simp only [Bool.false_eq_true, if_false, Bool.not_false, if_true]
    refine wpAny_bind (m := tryCompare (.ref x) _ b) (wpAny_mono one (fun r s1 z => ?_) fun _ _ e => e)
    obtain ⟨z1, I1⟩ := z
    subst z1
    refine wpAny_bind (m := tryCompare b _ (.ref x)) (wpAny_mono (two s1 I1) (fun r s2 z => ?_) fun _ _ e => e)
    obtain ⟨z1, I2⟩ := z
    subst z1
    rcases hop with ⟨rfl, rfl⟩ | ⟨rfl, rfl⟩
    · exact wpAny_bind (wpAny_rule (wpAny_bind (hk _ s2 I2 (wpAny_pure (h s2 I2)))))
    · exact wpAny_bind (wpAny_rule (wpAny_bind (hk _ s2 I2 (wpAny_pure (h s2 I2)))))
  · rename_i q
    exact absurd (by simp) q
end
end Rz
namespace Rz
open PySem PySem.Spec PyProof.Rows L2
/-! ### text and list decline to be compared with an own instance -/
theorem str_eq_ins (b : Str) (t : Tok) (l : Addr) : Meets (Builtin.«str.__eq__» ⟨[.str b t, .ref l], []⟩) (fun _ R s => (∃ C dx, s.heap.get? l = some (PySem.W.instObj C dx)) ∧ R (.ok (.ret .notImplemented)) s) :=
  .of_wp fun prog w A R s h => by obtain ⟨hp, g, d, tk, os⟩ := s; obtain ⟨⟨C, dx, hl⟩, h⟩ := h; unfold PySem.W.instObj at hl; wp_walk using wpAny_load hl; exact ⟨_, rfl, h⟩
theorem str_ne_ins (b : Str) (t : Tok) (l : Addr) : Meets (Builtin.«str.__ne__» ⟨[.str b t, .ref l], []⟩) (fun _ R s => (∃ C dx, s.heap.get? l = some (PySem.W.instObj C dx)) ∧ R (.ok (.ret .notImplemented)) s) :=
  .of_wp fun prog w A R s h => by obtain ⟨hp, g, d, tk, os⟩ := s; obtain ⟨⟨C, dx, hl⟩, h⟩ := h; unfold PySem.W.instObj at hl; wp_walk using wpAny_load hl; exact ⟨_, rfl, h⟩
theorem list_eq_ins (l b : Addr) (C : Addr) (K : PySem.W.Frag) (ox : Obj) (od : Option Obj) (items : Array Value) (n : Nat) (dd : Option Addr) (sl : Array (Option Value)) : Meets (Builtin.«list.__eq__» ⟨[.ref l, .ref b], []⟩) (fun _ R s => s.heap.get? l = some { cls := .type "list", dict := dd, data := .seq items n, slots := sl } ∧ (K.In s.heap ∧ PySem.W.InstAt s.heap b ox C od ∧ PySem.W.mroIn K C (.type "list") = some false) ∧ R (.ok (.ret .notImplemented)) s) :=
  .of_wp fun prog w A R s h => by
    obtain ⟨hp, g, d, tk, os⟩ := s
    obtain ⟨hl, ⟨X, J, hm⟩, h⟩ := h
    have L : PySem.W.Looks (model prog w) hp (isInstance (.ref b) (.type "list")) false := J.type.andThen (PySem.W.looks_mroIn X hm)
    have L2 : ∀ {A : Around} {R : Bool → Shared → Prop} {E : Value → Shared → Prop}, R false ⟨hp, g, d, tk, os⟩ → wpAny (model prog w) A (isInstance (.ref b) (.type "list")) R E ⟨hp, g, d, tk, os⟩ := fun q => L.here q
    clear L
    unfold Builtin.«list.__eq__»
    repeat (first | with_reducible refine L2 ?_ | with_reducible refine wpAny_bind (m := isInstance (.ref b) (.type "list")) (L2 ?_) | wp_step)
    exact ⟨_, rfl, h⟩
theorem list_ne_ins (l b : Addr) (C : Addr) (K : PySem.W.Frag) (ox : Obj) (od : Option Obj) (items : Array Value) (n : Nat) (dd : Option Addr) (sl : Array (Option Value)) : Meets (Builtin.«list.__ne__» ⟨[.ref l, .ref b], []⟩) (fun _ R s => s.heap.get? l = some { cls := .type "list", dict := dd, data := .seq items n, slots := sl } ∧ (K.In s.heap ∧ PySem.W.InstAt s.heap b ox C od ∧ PySem.W.mroIn K C (.type "list") = some false) ∧ R (.ok (.ret .notImplemented)) s) :=
  .of_wp fun prog w A R s h => by
    obtain ⟨hp, g, d, tk, os⟩ := s
    obtain ⟨hl, ⟨X, J, hm⟩, h⟩ := h
    have L : PySem.W.Looks (model prog w) hp (isInstance (.ref b) (.type "list")) false := J.type.andThen (PySem.W.looks_mroIn X hm)
    have L2 : ∀ {A : Around} {R : Bool → Shared → Prop} {E : Value → Shared → Prop}, R false ⟨hp, g, d, tk, os⟩ → wpAny (model prog w) A (isInstance (.ref b) (.type "list")) R E ⟨hp, g, d, tk, os⟩ := fun q => L.here q
    clear L
    unfold Builtin.«list.__ne__»
    repeat (first | with_reducible refine L2 ?_ | with_reducible refine wpAny_bind (m := isInstance (.ref b) (.type "list")) (L2 ?_) | wp_step)
    exact ⟨_, rfl, h⟩
section
variable {X : Cx} {k : Nat} {f C a dx : Addr} {fs : List (Str × V)} {fd : FuncData} {ps : List Str} {pre : List V → Hp → Prop} {pins : List (Addr × Obj)} {σ : L2.St} {H : Hp} {s : Shared} {A : Around} {E' : Value → Shared → Prop}
/-- a text or a list -/
def StL (K : PySem.W.Frag) (H : Hp) (y : V) : Prop := (∃ z, y = .str z) ∨ ∃ b xs, y = .ref b ∧ H b = some (.lst xs)
/-- x == y, x != y: y is a text or a list, the own __eq__ declines -/
def rEqN (K : PySem.W.Frag) (C : Addr) (pre : List V → Hp → Prop) (r : Bool) : R2 := fun x y H Q => ∃ (a dx : Addr) (fs : List (Str × V)), x = .ref a ∧ H a = some (.ins C dx fs) ∧ StL K H y ∧ pre [.ref a, y] H ∧ Q (.bl r) H
structure NiC (K : PySem.W.Frag) (C : Addr) : Prop where
  obj : PySem.W.mroIn K C (.type "object") = some true
  lst : PySem.W.mroIn K C (.type "list") = some false
  ne : PySem.W.findIn K (.ref C) "__ne__" = some (some (.builtin "object.__ne__"))
theorem two_eq {y : V} {u : Value} (N : NiC X.K C) (I : Inv X pins σ H s) (ea : H a = some (.ins C dx fs)) (r : RelV y u) (h : StL X.K H y) : wpAny (model X.prog X.w) A (tryCompare u "__eq__" (.ref a)) (fun r s2 => r = none ∧ Inv X pins σ H s2) E' s := by
  obtain ⟨od, J⟩ := inst_at I ea
  rcases h with ⟨z, rfl⟩ | ⟨b, xs, rfl, hb⟩
  · obtain ⟨t, rfl⟩ := r
    exact wpAny_tryCompare_declines (typeIs_str s z t) F.slot_str_eq_refl (call_meets F.slot_str_eq_refl (typeIs_str s z t) F.entry_str_eq (F.args_str_eq_2 _ _) (str_eq_ins z t a) ⟨⟨C, dx, J.at_⟩, (show Value.notImplemented = Value.notImplemented ∧ (none : Option Value) = none ∧ Inv X pins σ H s from ⟨rfl, rfl, I⟩)⟩)
  · obtain rfl : u = Value.ref b := r
    obtain ⟨its, rv, ⟨⟨oc, odd, oda, osl⟩, n, ho, hc, _, hd⟩, _⟩ := I.list (SqL.of hb)
    dsimp only at hc hd
    subst hc hd
    exact wpAny_tryCompare_declines ⟨_, ho, rfl⟩ F.slot_list_eq_refl (call_meets F.slot_list_eq_refl ⟨_, ho, rfl⟩ F.entry_list_eq (F.args_list_eq_2 _ _) (list_eq_ins b a C X.K _ od _ n _ _) ⟨ho, ⟨I.kIn, J, N.lst⟩, (show Value.notImplemented = Value.notImplemented ∧ (none : Option Value) = none ∧ Inv X pins σ H s from ⟨rfl, rfl, I⟩)⟩)
theorem two_ne {y : V} {u : Value} (N : NiC X.K C) (I : Inv X pins σ H s) (ea : H a = some (.ins C dx fs)) (r : RelV y u) (h : StL X.K H y) : wpAny (model X.prog X.w) A (tryCompare u "__ne__" (.ref a)) (fun r s2 => r = none ∧ Inv X pins σ H s2) E' s := by
  obtain ⟨od, J⟩ := inst_at I ea
  rcases h with ⟨z, rfl⟩ | ⟨b, xs, rfl, hb⟩
  · obtain ⟨t, rfl⟩ := r
    exact wpAny_tryCompare_declines (typeIs_str s z t) F.slot_str_ne_refl (call_meets F.slot_str_ne_refl (typeIs_str s z t) F.entry_str_ne (F.args_str_ne_2 _ _) (str_ne_ins z t a) ⟨⟨C, dx, J.at_⟩, (show Value.notImplemented = Value.notImplemented ∧ (none : Option Value) = none ∧ Inv X pins σ H s from ⟨rfl, rfl, I⟩)⟩)
  · obtain rfl : u = Value.ref b := r
    obtain ⟨its, rv, ⟨⟨oc, odd, oda, osl⟩, n, ho, hc, _, hd⟩, _⟩ := I.list (SqL.of hb)
    dsimp only at hc hd
    subst hc hd
    exact wpAny_tryCompare_declines ⟨_, ho, rfl⟩ F.slot_list_ne_refl (call_meets F.slot_list_ne_refl ⟨_, ho, rfl⟩ F.entry_list_ne (F.args_list_ne_2 _ _) (list_ne_ins b a C X.K _ od _ n _ _) ⟨ho, ⟨I.kIn, J, N.lst⟩, (show Value.notImplemented = Value.notImplemented ∧ (none : Option Value) = none ∧ Inv X pins σ H s from ⟨rfl, rfl, I⟩)⟩)
theorem same_no {y : V} {u : Value} (I : Inv X pins σ H s) (ea : H a = some (.ins C dx fs)) (r : RelV y u) (h : StL X.K H y) {R : Bool → Shared → Prop} (q : R false s) : wpAny (model X.prog X.w) A (isSame (.ref a) u) R E' s := by
  obtain ⟨od, J⟩ := inst_at I ea
  rcases h with ⟨z, rfl⟩ | ⟨b, xs, rfl, hb⟩
  · obtain ⟨t, rfl⟩ := r
    exact wpAny_of_eq (rfl : isSame (.ref a) (.str z t) = pure false) q
  · obtain rfl : u = Value.ref b := r
    obtain ⟨its, rv, ⟨⟨oc, odd, oda, osl⟩, n, ho, hc, _, hd⟩, _⟩ := I.list (SqL.of hb)
    dsimp only at hc hd
    subst hc hd
    refine SeqAt.wpAny_isSame_ref_other' (fun e => ?_) J.at_ ho (by simp) q
    subst e
    have z := J.at_.symm.trans ho
    have z2 := congrArg (fun o => o.map (·.cls)) z
    have z3 : (Value.ref C) = Value.type "list" := Option.some.inj z2
    cases z3
theorem stl_ty {y : V} {u : Value} (r : RelV y u) (h : StL X.K H y) : ∃ n : String, PySem.W.subIn X.K (.type n) (.ref C) = some false ∧ ∀ (s : Shared), Inv X pins σ H s → s.TypeIs u n := by
  rcases h with ⟨z, rfl⟩ | ⟨b, xs, rfl, hb⟩
  · obtain ⟨t, rfl⟩ := r
    exact ⟨"str", sub_str, fun s _ => typeIs_str s z t⟩
  · obtain rfl : u = Value.ref b := r
    refine ⟨"list", sub_lst, fun s I => ?_⟩
    obtain ⟨its, rv, ⟨o, n, ho, hc, _, hd⟩, _⟩ := I.list (SqL.of hb)
    exact ⟨_, ho, hc⟩
theorem op_eqN (M : Meth X.K C "__eq__" f) (F : NiOk X.prog X.w X.K X.mg X.base k f fd ps pre) (hr : Room k X.A) (hb : Binds X.K fd ps []) (hl : ps.length = 2) (N : NiC X.K C) : OpR X (compareOp .Eq) (rEqN X.K C pre false) := by
  intro pins s σ H x y v u Q I r1 r2 h
  obtain ⟨a, dx, fs, rfl, ea, hS, hp, hq⟩ := h
  obtain rfl : v = Value.ref a := r1
  obtain ⟨n, hn, ht⟩ := stl_ty (X := X) (C := C) (pins := pins) (σ := σ) r2 hS
  show wpAny _ _ (richCompare .Eq (.ref a) u) _ _ _
  exact rc_decline (op := .Eq) (.inl ⟨rfl, rfl⟩) hr.units0 I ea ht hn (try_ni M F hr rfl hb hl I ea r2 hp) (fun s' I' => two_eq N I' ea r2 hS) (fun R s' I' q => same_no I' ea r2 hS q) (fun s' I' => ⟨.bl false, H, I', rfl, hq⟩)
theorem op_neN (M : Meth X.K C "__eq__" f) (F : NiOk X.prog X.w X.K X.mg X.base k f fd ps pre) (hr : Room (k + 1) X.A) (hb : Binds X.K fd ps []) (hl : ps.length = 2) (N : NiC X.K C) : OpR X (compareOp .NotEq) (rEqN X.K C pre true) := by
  intro pins s σ H x y v u Q I r1 r2 h
  obtain ⟨a, dx, fs, rfl, ea, hS, hp, hq⟩ := h
  obtain rfl : v = Value.ref a := r1
  obtain ⟨n, hn, ht⟩ := stl_ty (X := X) (C := C) (pins := pins) (σ := σ) r2 hS
  show wpAny _ _ (richCompare .NotEq (.ref a) u) _ _ _
  exact rc_decline (op := .NotEq) (.inr ⟨rfl, rfl⟩) hr.units0 I ea ht hn (try_niNe M F hr rfl hb hl N.obj N.ne I ea r2 hp) (fun s' I' => two_ne N I' ea r2 hS) (fun R s' I' q => same_no I' ea r2 hS q) (fun s' I' => ⟨.bl true, H, I', rfl, hq⟩)
end
/-! ### != of two of one own class -/
section
variable {X : Cx} {k : Nat} {f C : Addr} {fd : FuncData} {ps : List Str} {sp : Sp}
def rNeO (C : Addr) (sp : Sp) : R2 := fun x y H Q => ∃ (a dx b dy : Addr) (fs gs : List (Str × V)), x = .ref a ∧ y = .ref b ∧ H a = some (.ins C dx fs) ∧ H b = some (.ins C dy gs) ∧ sp [.ref a, .ref b] H (fun v H' => ∃ r, v = .bl r ∧ Q (.bl (!r)) H') E0
theorem op_neO (M : Meth X.K C "__eq__" f) (F : FnOk X.prog X.w X.K X.mg X.base (L2.CX X.prog X.w) k f fd ps sp) (hr : Room (k + 1) X.A) (hb : Binds X.K fd ps []) (N : NiC X.K C) : OpR X (compareOp .NotEq) (rNeO C sp) := by
  intro pins s σ H x y v u Q I r1 r2 h
  obtain ⟨a, dx, b, dy, fs, gs, rfl, rfl, ea, eb, hq⟩ := h
  obtain rfl : v = Value.ref a := r1
  obtain rfl : u = Value.ref b := r2
  obtain ⟨od, J⟩ := inst_at I ea
  obtain ⟨od2, J2⟩ := inst_at I eb
  show wpAny _ _ (richCompare .NotEq (.ref a) (.ref b)) _ _ _
  have one : wpAny (model X.prog X.w) X.A (tryCompare (.ref a) "__ne__" (.ref b)) (fun r s' => ∃ v, r = some (.bool v) ∧ EP X pins σ Q (.bool v) s') X.xe s := by
    unfold tryCompare
    refine wpAny_bind (ifBound_ne I.kIn J N.obj N.ne (ne_entry hr.in1.units0 (PySem.W.ifBound_K I.kIn J M.at_ M.fn (wpAny_mono (run_below (vs := [.ref a, .ref b]) F hr.in1 rfl hb I (.cons rfl (.cons rfl .nil)) hq) (fun v s' hv => ?_) fun _ _ z => z))))
    obtain ⟨z, H', J', rz, c, rfl, q⟩ := hv
    obtain rfl : v = Value.bool c := rz
    exact .inr ⟨c, rfl, wpAny_pure ⟨_, rfl, .bl (!c), H', J', rfl, q⟩⟩
  unfold richCompare
  simp only [oneThing_ref]
  refine wpAny_holding (wpAny_bind (wpAny_cRoomFor hr.units0 ?_))
  refine wpAny_bind (J.type.here (wpAny_bind (J2.type.here ?_)))
  rw [show (Value.ref C != Value.ref C) = false from by simp]
  simp only [Bool.false_eq_true, if_false]
  refine wpAny_bind (wpAny_pure ?_)
  simp only [Bool.false_eq_true, if_false]
  refine wpAny_bind (wpAny_mono one (fun r s' z => ?_) fun _ _ e => e)
  obtain ⟨v, rfl, hq⟩ := z
  exact wpAny_pure hq
end
/-! ### < of alike data -/
section
variable {X : Cx}
def rLtD (K : PySem.W.Frag) : R2 := fun x y H Q => ∃ d e, Dp K H x d ∧ Dp K H y e ∧ PySem.W.alike d e = true ∧ d ≠ .none ∧ min d.depth e.depth < 60 ∧ Q (.bl (PySem.W.dataLt d e)) H
theorem op_ltD (hu : X.A.units + 64 < cLine) : OpR X (compareOp .Lt) (rLtD X.K) := by
  intro pins s σ H x y v u Q I rx ry h
  obtain ⟨d, e, hd, he, sd, se, hm, q⟩ := h
  obtain ⟨as, r1⟩ := Dp.reads I d x v hd rx
  obtain ⟨bs, r2⟩ := Dp.reads I e y u he ry
  exact PySem.W.lt_data r1 r2 sd se (by omega) ⟨.bl _, H, I, rfl, q⟩
end
end Rz

namespace Rz
open PySem L2
/-! ### the text by places -/
def top (i : Nat) : Stmt := PySem.Challenge.pw_risensigns_k03_rows_compared.main.body.getD i (.Pass ⟨0, 0, 0, 0⟩)
abbrev prg : Program := PySem.Challenge.pw_risensigns_k03_rows_compared
abbrev s_check_text : Stmt := top 12
abbrev s_decoded : Stmt := top 10
abbrev s_check_height : Stmt := top 13
abbrev s_Row_init : Stmt := inClass (top 15) 0
abbrev s_Row_signs : Stmt := inClass (top 15) 1
abbrev s_Row_heights : Stmt := inClass (top 15) 2
abbrev s_Row_len : Stmt := inClass (top 15) 3
abbrev s_Row_iter : Stmt := inClass (top 15) 4
abbrev s_Row_abs : Stmt := inClass (top 15) 11
abbrev s__law_pool : Stmt := top 18
abbrev s__law_pick : Stmt := top 19
abbrev s__law_is_int : Stmt := top 20
abbrev s__law_shows : Stmt := top 21
abbrev s__law_row_of : Stmt := top 22
abbrev s__law_as_row : Stmt := top 23
abbrev s__law_odd_sign : Stmt := top 24
abbrev s__law_is : Stmt := top 27
abbrev s_Row_eq : Stmt := inClass (top 15) 5
abbrev s_Row_lt : Stmt := inClass (top 15) 6
abbrev s_Row_contains : Stmt := inClass (top 15) 10
abbrev s__law_near : Stmt := top 25
abbrev s__law_string_of : Stmt := top 26
abbrev s_law : Stmt := top 28
abbrev s_BadSign_init : Stmt := inClass (top 3) 0
abbrev s_BadHeight_init : Stmt := inClass (top 5) 0
abbrev N_check_text : List Str := ["text", "at", "sign"]
abbrev P_check_text : List Str := ["text"]
abbrev N_decoded : List Str := ["text"]
abbrev P_decoded : List Str := ["text"]
abbrev N_check_height : List Str := ["height", "greatest"]
abbrev P_check_height : List Str := ["height", "greatest"]
abbrev N_Row_init : List Str := ["self", "text", "heights", "signs", "height"]
abbrev P_Row_init : List Str := ["self", "text", "heights"]
abbrev N_Row_signs : List Str := ["self", "sign", "_"]
abbrev P_Row_signs : List Str := ["self"]
abbrev N_Row_heights : List Str := ["self", "_", "height"]
abbrev P_Row_heights : List Str := ["self"]
abbrev N_Row_len : List Str := ["self"]
abbrev P_Row_len : List Str := ["self"]
abbrev N_Row_iter : List Str := ["self"]
abbrev P_Row_iter : List Str := ["self"]
abbrev N_Row_abs : List Str := ["self"]
abbrev P_Row_abs : List Str := ["self"]
abbrev N__law_pool : List Str := ["_law_script", "_law_draws", "_law_seed", "_law_cell", "_law_rest", "_law_k", "_law_value"]
abbrev P__law_pool : List Str := ["_law_script"]
abbrev N__law_pick : List Str := ["_law_draws", "_law_many"]
abbrev P__law_pick : List Str := ["_law_draws", "_law_many"]
abbrev N__law_is_int : List Str := ["_law_value"]
abbrev P__law_is_int : List Str := ["_law_value"]
abbrev N__law_shows : List Str := ["_law_row", "_law_pairs", "_law_told", "_law_k", "_law_pair"]
abbrev P__law_shows : List Str := ["_law_row", "_law_pairs"]
abbrev N__law_row_of : List Str := ["_law_draws", "_law_greatest", "_law_letters", "_law_few", "_law_size", "_law_k", "_law_pairs"]
abbrev P__law_row_of : List Str := ["_law_draws", "_law_greatest"]
abbrev N__law_as_row : List Str := ["_law_pairs", "_law_pair"]
abbrev P__law_as_row : List Str := ["_law_pairs"]
abbrev N__law_odd_sign : List Str := ["_law_draws", "_law_odd"]
abbrev P__law_odd_sign : List Str := ["_law_draws"]
abbrev N__law_is : List Str := ["_law_told", "_law_due"]
abbrev P__law_is : List Str := ["_law_told", "_law_due"]
abbrev N_Row_eq : List Str := ["self", "other"]
abbrev P_Row_eq : List Str := ["self", "other"]
abbrev N_Row_lt : List Str := ["self", "other"]
abbrev P_Row_lt : List Str := ["self", "other"]
abbrev N_Row_contains : List Str := ["self", "part", "size", "at"]
abbrev P_Row_contains : List Str := ["self", "part"]
abbrev N__law_near : List Str := ["_law_draws", "_law_pairs", "_law_letters", "_law_kind", "_law_at", "_law_end", "_law_other"]
abbrev P__law_near : List Str := ["_law_draws", "_law_pairs"]
abbrev N__law_string_of : List Str := ["_law_draws", "_law_pairs", "_law_letters", "_law_pair", "_law_signs", "_law_at", "_law_end", "_law_part", "_law_kind", "_law_place"]
abbrev P__law_string_of : List Str := ["_law_draws", "_law_pairs"]
abbrev N_law : List Str := ["_law_script", "_law_draws", "_law_first", "_law_second", "_law_string", "_law_one", "_law_two", "_law_inside", "_law_at", "_law_pair", "_law_signs"]
abbrev P_law : List Str := ["_law_script"]
/-! ### what stands behind the top -/
structure Txt (K : PySem.W.Frag) (mg : Str → Option Value) : Type where
  n_NotImplemented : mg "NotImplemented" = none
  n_abs : mg "abs" = none
  n_any : mg "any" = none
  n_bool : mg "bool" = none
  n_bytes : mg "bytes" = none
  n_enumerate : mg "enumerate" = none
  n_int : mg "int" = none
  n_isinstance : mg "isinstance" = none
  n_iter : mg "iter" = none
  n_len : mg "len" = none
  n_list : mg "list" = none
  n_max : mg "max" = none
  n_property : mg "property" = none
  n_range : mg "range" = none
  n_str : mg "str" = none
  n_tuple : mg "tuple" = none
  n_zip : mg "zip" = none
  k_SIGNS : ∃ t, mg "SIGNS" = some (.str "abcdefghijklmnopqrstuvwxyz" t)
  k_GREATEST_HEIGHT : ∃ t, mg "GREATEST_HEIGHT" = some (.int 9 t)
  c_BadSign : Addr
  m_BadSign : mg "BadSign" = some (.ref c_BadSign)
  o_BadSign : OexC K c_BadSign
  x_BadSign : ExF K c_BadSign "at"
  f_BadSign_init : Addr
  fd_BadSign_init : FuncData
  i_BadSign : PySem.W.findIn K (.ref c_BadSign) "__init__" = some (some (.ref f_BadSign_init))
  t_BadSign : PySem.W.typeIn K (.ref f_BadSign_init) = some (.type "function")
  F_BadSign_init : ExInit prg K mg c_BadSign f_BadSign_init fd_BadSign_init "at" s_BadSign_init
  b_BadSign_init : Binds K fd_BadSign_init ["self", "at"] []
  em_BadSign_BadSign : PySem.W.exmOne K (.ref c_BadSign) (.ref c_BadSign) = some true
  -- em_BadSign_BadHeight below
  -- em_BadSign_Uneven below
  c_BadHeight : Addr
  m_BadHeight : mg "BadHeight" = some (.ref c_BadHeight)
  o_BadHeight : OexC K c_BadHeight
  x_BadHeight : ExF K c_BadHeight "height"
  f_BadHeight_init : Addr
  fd_BadHeight_init : FuncData
  i_BadHeight : PySem.W.findIn K (.ref c_BadHeight) "__init__" = some (some (.ref f_BadHeight_init))
  t_BadHeight : PySem.W.typeIn K (.ref f_BadHeight_init) = some (.type "function")
  F_BadHeight_init : ExInit prg K mg c_BadHeight f_BadHeight_init fd_BadHeight_init "height" s_BadHeight_init
  b_BadHeight_init : Binds K fd_BadHeight_init ["self", "height"] []
  em_BadHeight_BadSign : PySem.W.exmOne K (.ref c_BadHeight) (.ref c_BadSign) = some false
  em_BadHeight_BadHeight : PySem.W.exmOne K (.ref c_BadHeight) (.ref c_BadHeight) = some true
  -- em_BadHeight_Uneven below
  c_Uneven : Addr
  m_Uneven : mg "Uneven" = some (.ref c_Uneven)
  o_Uneven : PySem.W.excIn K c_Uneven [.type "ValueError", .type "Exception", .type "BaseException", .type "object"] "ValueError.__new__" = true
  kp_Uneven : PySem.W.keepIn K (.ref c_Uneven) = true
  r_Uneven : PySem.W.subIn K (.ref c_Uneven) (.type "BaseException") = some true
  t_Uneven : PySem.W.typeIn K (.ref c_Uneven) = some (.type "type")
  em_Uneven_BadSign : PySem.W.exmOne K (.ref c_Uneven) (.ref c_BadSign) = some false
  em_Uneven_BadHeight : PySem.W.exmOne K (.ref c_Uneven) (.ref c_BadHeight) = some false
  em_Uneven_Uneven : PySem.W.exmOne K (.ref c_Uneven) (.ref c_Uneven) = some true
  em_BadSign_BadHeight : PySem.W.exmOne K (.ref c_BadSign) (.ref c_BadHeight) = some false
  em_BadSign_Uneven : PySem.W.exmOne K (.ref c_BadSign) (.ref c_Uneven) = some false
  em_BadHeight_Uneven : PySem.W.exmOne K (.ref c_BadHeight) (.ref c_Uneven) = some false
  c_Row : Addr
  m_Row : mg "Row" = some (.ref c_Row)
  cl_Row : Cls K c_Row
  mk_Row : PySem.W.makesIn K c_Row = true
  kp_Row : PySem.W.keepIn K (.ref c_Row) = true
  is_Row : C8.InsC K c_Row
  sf_Row : PySem.W.selfFirst K c_Row = true
  nsq_Row : PySem.W.noSeq K c_Row = true
  fx_Row_obj : PySem.W.mroIn K c_Row (.type "object") = some true
  fx_Row_lst : PySem.W.mroIn K c_Row (.type "list") = some false
  fx_Row_ne : PySem.W.findIn K (.ref c_Row) "__ne__" = some (some (.builtin "object.__ne__"))
  fx_Row_kstr : PySem.W.kitOne K (.type "str") (.ref c_Row) = some false
  fx_Row_klst : PySem.W.kitOne K (.type "list") (.ref c_Row) = some false
  na_Row__pairs : NoAttr K c_Row "_pairs"
  f_check_text : Addr
  fd_check_text : FuncData
  F_check_text : Fun K "check_text" "check_text" s_check_text f_check_text fd_check_text
  b_check_text : Binds K fd_check_text P_check_text []
  m_check_text : mg "check_text" = some (.ref f_check_text)
  f_decoded : Addr
  fd_decoded : FuncData
  F_decoded : Fun K "decoded" "decoded" s_decoded f_decoded fd_decoded
  b_decoded : Binds K fd_decoded P_decoded []
  m_decoded : mg "decoded" = some (.ref f_decoded)
  f_check_height : Addr
  fd_check_height : FuncData
  F_check_height : Fun K "check_height" "check_height" s_check_height f_check_height fd_check_height
  b_check_height : Binds K fd_check_height P_check_height []
  m_check_height : mg "check_height" = some (.ref f_check_height)
  f_Row_init : Addr
  fd_Row_init : FuncData
  D_Row_init : FunD K "__init__" "Row.__init__" (defArgs s_Row_init) (defBody s_Row_init) (defScope s_Row_init) [.str "", .non] [] f_Row_init fd_Row_init
  kp_Row_init : PySem.W.keepIn K (.ref f_Row_init) = true
  M_Row_init : Meth K c_Row "__init__" f_Row_init
  f_Row_signs : Addr
  fd_Row_signs : FuncData
  F_Row_signs : Fun K "signs" "Row.signs" s_Row_signs f_Row_signs fd_Row_signs
  b_Row_signs : Binds K fd_Row_signs P_Row_signs []
  p_Row_signs : Addr
  M_Row_signs : PropOf K c_Row "signs" p_Row_signs f_Row_signs
  f_Row_heights : Addr
  fd_Row_heights : FuncData
  F_Row_heights : Fun K "heights" "Row.heights" s_Row_heights f_Row_heights fd_Row_heights
  b_Row_heights : Binds K fd_Row_heights P_Row_heights []
  p_Row_heights : Addr
  M_Row_heights : PropOf K c_Row "heights" p_Row_heights f_Row_heights
  f_Row_len : Addr
  fd_Row_len : FuncData
  F_Row_len : Fun K "__len__" "Row.__len__" s_Row_len f_Row_len fd_Row_len
  b_Row_len : Binds K fd_Row_len P_Row_len []
  M_Row_len : Meth K c_Row "__len__" f_Row_len
  f_Row_iter : Addr
  fd_Row_iter : FuncData
  F_Row_iter : Fun K "__iter__" "Row.__iter__" s_Row_iter f_Row_iter fd_Row_iter
  b_Row_iter : Binds K fd_Row_iter P_Row_iter []
  M_Row_iter : Meth K c_Row "__iter__" f_Row_iter
  f_Row_abs : Addr
  fd_Row_abs : FuncData
  F_Row_abs : Fun K "__abs__" "Row.__abs__" s_Row_abs f_Row_abs fd_Row_abs
  b_Row_abs : Binds K fd_Row_abs P_Row_abs []
  M_Row_abs : Meth K c_Row "__abs__" f_Row_abs
  f__law_pool : Addr
  fd__law_pool : FuncData
  F__law_pool : Fun K "_law_pool" "_law_pool" s__law_pool f__law_pool fd__law_pool
  b__law_pool : Binds K fd__law_pool P__law_pool []
  m__law_pool : mg "_law_pool" = some (.ref f__law_pool)
  f__law_pick : Addr
  fd__law_pick : FuncData
  F__law_pick : Fun K "_law_pick" "_law_pick" s__law_pick f__law_pick fd__law_pick
  b__law_pick : Binds K fd__law_pick P__law_pick []
  m__law_pick : mg "_law_pick" = some (.ref f__law_pick)
  f__law_is_int : Addr
  fd__law_is_int : FuncData
  F__law_is_int : Fun K "_law_is_int" "_law_is_int" s__law_is_int f__law_is_int fd__law_is_int
  b__law_is_int : Binds K fd__law_is_int P__law_is_int []
  m__law_is_int : mg "_law_is_int" = some (.ref f__law_is_int)
  f__law_shows : Addr
  fd__law_shows : FuncData
  F__law_shows : Fun K "_law_shows" "_law_shows" s__law_shows f__law_shows fd__law_shows
  b__law_shows : Binds K fd__law_shows P__law_shows []
  m__law_shows : mg "_law_shows" = some (.ref f__law_shows)
  f__law_row_of : Addr
  fd__law_row_of : FuncData
  F__law_row_of : Fun K "_law_row_of" "_law_row_of" s__law_row_of f__law_row_of fd__law_row_of
  b__law_row_of : Binds K fd__law_row_of P__law_row_of []
  m__law_row_of : mg "_law_row_of" = some (.ref f__law_row_of)
  f__law_as_row : Addr
  fd__law_as_row : FuncData
  F__law_as_row : Fun K "_law_as_row" "_law_as_row" s__law_as_row f__law_as_row fd__law_as_row
  b__law_as_row : Binds K fd__law_as_row P__law_as_row []
  m__law_as_row : mg "_law_as_row" = some (.ref f__law_as_row)
  f__law_odd_sign : Addr
  fd__law_odd_sign : FuncData
  F__law_odd_sign : Fun K "_law_odd_sign" "_law_odd_sign" s__law_odd_sign f__law_odd_sign fd__law_odd_sign
  b__law_odd_sign : Binds K fd__law_odd_sign P__law_odd_sign []
  m__law_odd_sign : mg "_law_odd_sign" = some (.ref f__law_odd_sign)
  f__law_is : Addr
  fd__law_is : FuncData
  F__law_is : Fun K "_law_is" "_law_is" s__law_is f__law_is fd__law_is
  b__law_is : Binds K fd__law_is P__law_is []
  m__law_is : mg "_law_is" = some (.ref f__law_is)
  f_Row_eq : Addr
  fd_Row_eq : FuncData
  F_Row_eq : Fun K "__eq__" "Row.__eq__" s_Row_eq f_Row_eq fd_Row_eq
  b_Row_eq : Binds K fd_Row_eq P_Row_eq []
  M_Row_eq : Meth K c_Row "__eq__" f_Row_eq
  f_Row_lt : Addr
  fd_Row_lt : FuncData
  F_Row_lt : Fun K "__lt__" "Row.__lt__" s_Row_lt f_Row_lt fd_Row_lt
  b_Row_lt : Binds K fd_Row_lt P_Row_lt []
  M_Row_lt : Meth K c_Row "__lt__" f_Row_lt
  f_Row_contains : Addr
  fd_Row_contains : FuncData
  F_Row_contains : Fun K "__contains__" "Row.__contains__" s_Row_contains f_Row_contains fd_Row_contains
  b_Row_contains : Binds K fd_Row_contains P_Row_contains []
  M_Row_contains : Meth K c_Row "__contains__" f_Row_contains
  f__law_near : Addr
  fd__law_near : FuncData
  F__law_near : Fun K "_law_near" "_law_near" s__law_near f__law_near fd__law_near
  b__law_near : Binds K fd__law_near P__law_near []
  m__law_near : mg "_law_near" = some (.ref f__law_near)
  f__law_string_of : Addr
  fd__law_string_of : FuncData
  F__law_string_of : Fun K "_law_string_of" "_law_string_of" s__law_string_of f__law_string_of fd__law_string_of
  b__law_string_of : Binds K fd__law_string_of P__law_string_of []
  m__law_string_of : mg "_law_string_of" = some (.ref f__law_string_of)
  f_law : Addr
  fd_law : FuncData
  F_law : Fun K "law" "law" s_law f_law fd_law
  b_law : Binds K fd_law P_law []
  m_law : mg "law" = some (.ref f_law)
theorem bd_Row_init_1 {K : PySem.W.Frag} {mg : Str → Option Value} (T : Txt K mg) : ∃ ds, Vals (([.str "", .non] : List V).drop 0) ds ∧ Binds K T.fd_Row_init P_Row_init ds :=
  T.D_Row_init.binds1 (ps := P_Row_init) 1 0 (by simp) rfl fun _ _ _ _ _ _ _ us its hu hi => match us, its, hu, hi with | [_], [_, _], _, _ => ⟨_, rfl, rfl⟩
theorem bd_Row_init_2 {K : PySem.W.Frag} {mg : Str → Option Value} (T : Txt K mg) : ∃ ds, Vals (([.str "", .non] : List V).drop 1) ds ∧ Binds K T.fd_Row_init P_Row_init ds :=
  T.D_Row_init.binds1 (ps := P_Row_init) 2 1 (by simp) rfl fun _ _ _ _ _ _ _ us its hu hi => match us, its, hu, hi with | [_, _], [_, _], _, _ => ⟨_, rfl, rfl⟩
theorem bd_Row_init_3 {K : PySem.W.Frag} {mg : Str → Option Value} (T : Txt K mg) : ∃ ds, Vals (([.str "", .non] : List V).drop 2) ds ∧ Binds K T.fd_Row_init P_Row_init ds :=
  T.D_Row_init.binds1 (ps := P_Row_init) 3 2 (by simp) rfl fun _ _ _ _ _ _ _ us its hu hi => match us, its, hu, hi with | [_, _, _], [_, _], _, _ => ⟨_, rfl, rfl⟩
theorem ok_BadSign_init {w : World} {K : PySem.W.Frag} {mg : Str → Option Value} {base : Heap} (T : Txt K mg) : FnOk prg w K mg base (L2.CX prg w) 1 T.f_BadSign_init T.fd_BadSign_init ["self", "at"] (spExI T.c_BadSign "at") :=
  exinit_ok T.o_BadSign T.F_BadSign_init rfl rfl rfl rfl rfl rfl rfl rfl rfl rfl (by decide +kernel) (by decide +kernel) (by decide +kernel) (by decide) (by decide) (msg_ok2 rfl (by decide) (by decide) (by decide +kernel)) (fun _ _ _ _ => rfl) (fun _ _ _ _ => rfl)
theorem ok_BadHeight_init {w : World} {K : PySem.W.Frag} {mg : Str → Option Value} {base : Heap} (T : Txt K mg) : FnOk prg w K mg base (L2.CX prg w) 1 T.f_BadHeight_init T.fd_BadHeight_init ["self", "height"] (spExI T.c_BadHeight "height") :=
  exinit_ok T.o_BadHeight T.F_BadHeight_init rfl rfl rfl rfl rfl rfl rfl rfl rfl rfl (by decide +kernel) (by decide +kernel) (by decide +kernel) (by decide) (by decide) (msg_ok3 rfl (by decide) (by decide) (by decide +kernel) (by decide +kernel)) (fun _ _ _ _ => rfl) (fun _ _ _ _ => rfl)

end Rz
namespace Rz
open PySem PySem.Spec PyProof.Rows L2
/-- nothing for a text; else BadSign with the first place -/
def sp_check_text (cB : Addr) : Sp := fun vs H Q E => ∃ z : Str, vs = [.str z] ∧ z.length ≤ 1000000 ∧ (fo z = none → ∀ H', Same H H' → Q .non H') ∧
  (∀ i, fo z = some i → ∀ H' d, Same H H' → H d = none → H' d = some (.xd [("at", .int (i : Nat))]) → E (.ref cB) (some d) H')
section
variable {w : World} {K : PySem.W.Frag} {mg : Str → Option Value} {base : Heap}
theorem sc_check_text : FnScope N_check_text P_check_text (defScope s_check_text) := ⟨rfl, rfl, rfl, by decide +kernel, rfl, by decide +kernel, by decide +kernel⟩
theorem ok_check_text (T : Txt K mg) : FnOk prg w K mg base (L2.CX prg w) 3 T.f_check_text T.fd_check_text P_check_text (sp_check_text T.c_BadSign) := by
  refine T.F_check_text.okX sc_check_text (fun vs H Q E h => ?_) (fun cdv A outer s H vs Q E hr h => ?_)
  · obtain ⟨z, rfl, _⟩ := h
    rfl
  obtain ⟨z, rfl, hz, kg, kb⟩ := h
  have nd := sc_check_text.nd
  obtain ⟨tS, k_SIGNS⟩ := T.k_SIGNS
  have tk : Takes (cxOf (L2.CX prg w) prg w K mg base N_check_text "check_text" (defScope s_check_text) T.f_check_text cdv A outer s H E) (fun cls d _ H' => E cls d H') := takes_of rfl rfl rfl rfl
  refine ⟨_, (pss_one (ps_for (passes_of rfl) rfl (pi_enumS (by rfl) T.n_enumerate (pa_cons (pv 0) pa_nil)) (pg_tup rfl (pgs_cons (pg_name (i := 1) nd rfl (Or.inl rfl)) (pgs_cons (pg_name (i := 2) nd rfl (Or.inl rfl)) pgs_nil)))
      (pss_one (ps_if (pt_cmpR op_notIn_sign (pv 2) (pe_glob (v := .str abc) (by rfl) k_SIGNS ⟨_, rfl⟩) rfl) (pss_one (ps_raise rfl tk (pmk_oex T.o_BadSign T.i_BadSign T.t_BadSign (ok_BadSign_init T) (hr.mono (by decide)) T.b_BadSign_init .nil passN (by rfl) T.m_BadSign (pa_cons (pv 1) pa_nil)))) pss_nil)))), ?_⟩
  refine ⟨_, rfl, z, rfl, for_it walk_enumS (fun i σ H' => ∃ v1 v2 : Option V, σ = [some (.str z), v1, v2] ∧ Same H H' ∧ ∀ (j c : Nat), j < i → z.cps.toList[j]? = some c → oddC c = false)
    ⟨_, _, rfl, Same.refl H, fun j c hj => absurd hj (Nat.not_lt_zero j)⟩ (fun _ _ _ _ _ => True.intro) ?_ ?_⟩
  · rintro i x σ H1 H2 hi ⟨v1, v2, rfl, R, hb⟩ ⟨Tp, c, rfl, hT, rfl, hc⟩
    have R2 : Same H (upd H1 Tp (.tup [.int (i : Nat), .str ⟨#[c]⟩])) := Rz.Same.new R hT
    refine ⟨Tp, _, rfl, SqT.of upd_same, rfl, _, _, rfl, _, _, rfl, rfl, ?_⟩
    refine ⟨_, rfl, c, abc, rfl, rfl, _, rfl, ?_⟩
    refine ite2 (fun ho => ?_) (fun ho => ?_)
    · have hfo := fo_some hc ho hb
      have hl := fo_lt hfo
      exact ⟨_, rfl, by show 1 ≤ 1000; decide, raise_fld (log_nat (by omega)) fun H2 d S2 hd e => kb i hfo H2 d (R2.trans S2) (R2.free hd) e⟩
    · refine ⟨_, _, rfl, R2, fun j c2 hj h2 => ?_⟩
      by_cases e : j < i
      · exact hb j c2 e h2
      · have e3 : j = i := by omega
        subst e3
        rw [hc] at h2
        cases h2
        simpa [oddC] using ho
  · rintro σ H1 ⟨v1, v2, rfl, R, hb⟩
    exact kg (fo_none fun j c hj => hb j c (by
      have := (List.getElem?_eq_some_iff.mp hj).1
      simpa using this) hj) H1 R
end
end Rz

namespace Rz
open PySem PySem.Spec PyProof.Rows L2
def sp_decoded : Sp := fun vs H Q _ => ∃ z : Str, vs = [.str z] ∧ Q (.str z) H
section
variable {w : World} {K : PySem.W.Frag} {mg : Str → Option Value} {base : Heap}
theorem sc_decoded : FnScope N_decoded P_decoded (defScope s_decoded) := ⟨rfl, rfl, rfl, by decide +kernel, rfl, by decide +kernel, by decide +kernel⟩
theorem ok_decoded (T : Txt K mg) : FnOk prg w K mg base (L2.CX prg w) 1 T.f_decoded T.fd_decoded P_decoded sp_decoded := by
  refine Rz.Fun.okN T.F_decoded sc_decoded (fun vs H Q E h => ?_) (fun cdv A outer s H vs Q E hr h => ?_)
  · obtain ⟨z, rfl, _⟩ := h
    rfl
  obtain ⟨z, rfl, k⟩ := h
  refine ⟨_, (pss_cons (ps_if (pt_val (pe_callB call_isi (by rfl) T.n_isinstance (by decide +kernel) (pa_cons (pv 0) (pa_cons (pe_bltn (v := .ty "bytes") (by rfl) T.n_bytes (by decide +kernel) rfl) pa_nil)))) pss_never pss_nil)
    (pss_one (ps_ret (pv 0)))), ?_⟩
  refine ⟨_, rfl, _, _, .type "str", .type "bytes", false, rfl, .ty _, .base (.str z), kit_ty (by decide +kernel), false, rfl, ?_⟩
  exact iteF ⟨_, rfl, k⟩
end
end Rz

namespace Rz
open PySem PySem.Spec PyProof.Rows L2
/-- nothing for a height from 0 to g; else BadHeight with it -/
def sp_check_height (cH : Addr) : Sp := fun vs H Q E => ∃ h g : Int, vs = [.int h, .int g] ∧ h.natAbs < 2 ^ 64 ∧ (0 ≤ h ∧ h ≤ g → Q .non H) ∧
  (¬ (0 ≤ h ∧ h ≤ g) → ∀ H' d, Same H H' → H d = none → H' d = some (.xd [("height", .int h)]) → E (.ref cH) (some d) H')
section
variable {w : World} {K : PySem.W.Frag} {mg : Str → Option Value} {base : Heap}
theorem sc_check_height : FnScope N_check_height P_check_height (defScope s_check_height) := ⟨rfl, rfl, rfl, by decide +kernel, rfl, by decide +kernel, by decide +kernel⟩
theorem ok_check_height (T : Txt K mg) : FnOk prg w K mg base (L2.CX prg w) 3 T.f_check_height T.fd_check_height P_check_height (sp_check_height T.c_BadHeight) := by
  refine T.F_check_height.okX sc_check_height (fun vs H Q E h => ?_) (fun cdv A outer s H vs Q E hr h => ?_)
  · obtain ⟨h, g, rfl, _⟩ := h
    rfl
  obtain ⟨h, g, rfl, hs, kg, kb⟩ := h
  have tk : Takes (cxOf (L2.CX prg w) prg w K mg base N_check_height "check_height" (defScope s_check_height) T.f_check_height cdv A outer s H E) (fun cls d _ H' => E cls d H') := takes_of rfl rfl rfl rfl
  refine ⟨_, (pss_one (ps_if (pt_not (pt_chain op_le op_le pe_int (pv 0) (pv 1))) (pss_one (ps_raise rfl tk (pmk_oex T.o_BadHeight T.i_BadHeight T.t_BadHeight (ok_BadHeight_init T) (hr.mono (by decide)) T.b_BadHeight_init .nil passN (by rfl) T.m_BadHeight (pa_cons (pv 0) pa_nil)))) pss_nil)), ?_⟩
  have bad : ¬ (0 ≤ h ∧ h ≤ g) → _ := fun hb => raise_fld (C := T.c_BadHeight) (fld := "height") (n := h) (H1 := H) (Q := E) (log_small hs (by decide)) fun H2 d S2 hd e => kb hb H2 d S2 hd e
  refine ⟨_, rfl, _, _, rfl, rfl, decide (0 ≤ h), rfl, ?_⟩
  by_cases h0 : 0 ≤ h
  · rw [decide_eq_true h0]
    refine iteT ⟨_, rfl, _, _, rfl, rfl, decide (h ≤ g), rfl, ?_⟩
    by_cases h1 : h ≤ g
    · rw [decide_eq_true h1]
      exact iteF (kg ⟨h0, h1⟩)
    · rw [decide_eq_false h1]
      exact iteT ⟨_, rfl, by show 1 ≤ 1000; decide, bad fun z => h1 z.2⟩
  · rw [decide_eq_false h0]
    refine iteF ⟨false, rfl, ?_⟩
    exact iteT ⟨_, rfl, by show 1 ≤ 1000; decide, bad fun z => h0 z.1⟩
end
end Rz

namespace Rz
open PySem PySem.Spec PyProof.Rows L2
/-- the heights that were passed, or none -/
def HtsArg (H : Hp) (z : Str) (ns : List Int) (hv : V) : Prop := (hv = .non ∧ ns = List.replicate z.length 0) ∨ ∃ l, hv = .ref l ∧ H l = some (.lst (ns.map V.int)) ∧ ns.length ≤ 1000000 ∧ ∀ n ∈ ns, n.natAbs < 2 ^ 64
def sp_Row_init (cB cU cH cR : Addr) : Sp := fun vs H Q E => ∃ (p dx : Addr) (z : Str) (hv : V) (ns : List Int), vs = [.ref p, .str z, hv] ∧ z.length ≤ 1000000 ∧ H p = some (.ins cR dx []) ∧ HtsArg H z ns hv ∧
  (match rr z ns with
    | .sign i => ∀ H' d, But [p] H H' → H d = none → H' d = some (.xd [("at", .int (i : Nat))]) → E (.ref cB) (some d) H'
    | .uneven => ∀ H', But [p] H H' → E (.ref cU) none H'
    | .height n => ∀ H' d, But [p] H H' → H d = none → H' d = some (.xd [("height", .int n)]) → E (.ref cH) (some d) H'
    | .row => ∀ H' l, But [p] H H' → H l = none → RAt cR H' p l (z.cps.toList.zip ns) → Q .non H')
section
variable {w : World} {K : PySem.W.Frag} {mg : Str → Option Value} {base : Heap}
theorem sc_Row_init : FnScope N_Row_init P_Row_init (defScope s_Row_init) := ⟨rfl, rfl, rfl, by decide +kernel, rfl, by decide +kernel, by decide +kernel⟩
theorem ok_Row_init (T : Txt K mg) : FnOk prg w K mg base (L2.CX prg w) 4 T.f_Row_init T.fd_Row_init P_Row_init (sp_Row_init T.c_BadSign T.c_Uneven T.c_BadHeight T.c_Row) := by
  refine T.D_Row_init.ok sc_Row_init (fun vs H Q E h => ?_) (fun cdv A outer s H vs Q E hr h => ?_)
  · obtain ⟨p, dx, z, hv, ns, rfl, _⟩ := h
    rfl
  obtain ⟨p, dx, z, hv, ns, rfl, hz, hp, hA, k⟩ := h
  have nd := sc_Row_init.nd
  obtain ⟨tG, k_GREATEST_HEIGHT⟩ := T.k_GREATEST_HEIGHT
  have tk : Takes (cxOf (L2.CX prg w) prg w K mg base N_Row_init "Row.__init__" (defScope s_Row_init) T.f_Row_init cdv A outer s H E) (fun cls d _ H' => E cls d H') := takes_of rfl rfl rfl rfl
  refine ⟨_, (pss_cons (ps_set (i := 3) nd rfl (Or.inl rfl) (pe_fn (ok_decoded T) (hr.mono (by decide)) (by rfl) T.m_decoded T.F_decoded.kp T.b_decoded .nil (passAt tk) (pa_cons (pv 1) pa_nil)))
    (pss_cons (ps_expr (pe_fn (ok_check_text T) (hr.mono (by decide)) (by rfl) T.m_check_text T.F_check_text.kp T.b_check_text .nil (passAt tk) (pa_cons (pv 3) pa_nil)))
    (C8.pss_cut (ps_if (pt_cmp (pc_isN (pv 2)) rfl) (pss_one (ps_set (i := 2) nd rfl (Or.inl rfl) (pe_op op_rep (pe_lst (pa_cons pe_int pa_nil)) (pe_callB call_len_str (by rfl) T.n_len PySem.boot_len (pa_cons (pv 3) pa_nil))))) pss_nil)
    (pss_cons (ps_if (pt_cmpR op_ne (pe_callB call_len_seq (by rfl) T.n_len PySem.boot_len (pa_cons (pv 2) pa_nil)) (pe_callB call_len_str (by rfl) T.n_len PySem.boot_len (pa_cons (pv 3) pa_nil)) (nomark _)) (pss_one (ps_raise rfl tk (pmk_own PySem.F.excBase_ValueError T.o_Uneven T.m_Uneven T.kp_Uneven (raises_own T.r_Uneven T.t_Uneven) rfl))) pss_nil)
    (pss_cons (ps_for (passes_of rfl) rfl (pi_list (pv 2)) (pg_name (i := 4) nd rfl (Or.inl rfl))
      (pss_one (ps_expr (pe_fn (ok_check_height T) (hr.mono (by decide)) (by rfl) T.m_check_height T.F_check_height.kp T.b_check_height .nil (passAt tk) (pa_cons (pv 4) (pa_cons (pe_glob (v := .int 9) (by rfl) k_GREATEST_HEIGHT ⟨_, rfl⟩) pa_nil))))))
    (pss_one (ps_fld (pv 0) (pe_listZip (by rfl) (pa_cons (pv 3) (pa_cons (pv 2) pa_nil)) (by rfl) T.n_list (by decide +kernel) (by rfl) T.n_zip) rfl))))))), ?_⟩
  have hzl : z.length ≤ sizeLine := by rw [sizeLine_eq]; omega
  refine ⟨_, rfl, z, rfl, ?_⟩
  refine ⟨_, rfl, z, rfl, hz, fun f1 H1 S1 => ?_, fun i f1 H1 d S1 hd e => ?_⟩
  rotate_left
  · unfold rr at k
    rw [f1] at k
    exact k H1 d (But.of S1) hd e
  have k2 : (match (if ns.length ≠ z.length then RR.uneven else match ns.find? badH with
      | some n => RR.height n
      | none => RR.row) with
    | .sign i => ∀ H' d, But [p] H H' → H d = none → H' d = some (.xd [("at", .int (i : Nat))]) → E (.ref T.c_BadSign) (some d) H'
    | .uneven => ∀ H', But [p] H H' → E (.ref T.c_Uneven) none H'
    | .height n => ∀ H' d, But [p] H H' → H d = none → H' d = some (.xd [("height", .int n)]) → E (.ref T.c_BadHeight) (some d) H'
    | .row => ∀ H' l, But [p] H H' → H l = none → RAt T.c_Row H' p l (z.cps.toList.zip ns) → Q .non H') := by
    unfold rr at k
    rw [f1] at k
    exact k
  clear k
  refine ⟨fun σ H' => ∃ l : Addr, σ = [some (.ref p), some (.str z), some (.ref l), some (.str z), none] ∧ Same H H' ∧ H' l = some (.lst (ns.map V.int)) ∧ ns.length ≤ 1000000 ∧ ∀ n ∈ ns, n.natAbs < 2 ^ 64, ?_, ?_⟩
  · rcases hA with ⟨rfl, rfl⟩ | ⟨l, rfl, hl, hn, hb⟩
    · refine ⟨_, rfl, _, rfl, iteT ?_⟩
      refine ⟨by decide, fun q hq => ⟨_, rfl, z, rfl, hzl, q, _, _, rfl, rfl, upd_same, by omega, by omega, by simpa using hzl, fun l hl => ?_⟩⟩
      have S2 := Rz.Same.new (o := .lst [.int 0]) S1 hq
      refine ⟨l, rfl, Rz.Same.new S2 hl, ?_, by rw [List.length_replicate]; exact hz, fun n hn => ?_⟩
      · rw [upd_same, Int.toNat_natCast]
        congr 2
        generalize z.length = m
        induction m with
        | zero => rfl
        | succ m ih => rw [List.replicate_succ, List.flatten_cons, ih]; rfl
      · rw [(List.mem_replicate.mp hn).2]
        decide
    · refine ⟨_, rfl, _, rfl, iteF ?_⟩
      exact ⟨l, rfl, S1, S1 _ _ hl, hn, hb⟩
  rintro σ H2 ⟨l, rfl, S2, hl, hn, hb⟩
  refine ⟨_, rfl, l, _, rfl, .inl (SqL.of hl), _, rfl, z, rfl, hzl, rfl, _, rfl, ?_⟩
  rw [List.length_map]
  refine ite2 (fun hd => ?_) (fun hd => ?_)
  · have hne : ns.length ≠ z.length := fun e => by
      rw [e] at hd
      simp at hd
    rw [if_pos hne] at k2
    exact k2 H2 (But.of S2)
  have heq : ns.length = z.length := by
    have h2 : (ns.length : Int) = z.length := by
      have := hd
      simpa using this
    omega
  rw [if_neg (by simp [heq])] at k2
  refine ⟨_, rfl, l, rfl, ⟨_, SqL.of hl⟩, for_list (K := K) (a := l) (xs := ns.map V.int) (fun i σ H' => ∃ v4 : Option V, σ = [some (.ref p), some (.str z), some (.ref l), some (.str z), v4] ∧ H' = H2 ∧ ∀ j n, j < i → ns[j]? = some n → badH n = false)
    ⟨none, rfl, rfl, fun j n hj => absurd hj (Nat.not_lt_zero j)⟩ (fun i σ H' _ ⟨_, _, e, _⟩ => by rw [e]; exact SqL.of hl) ?_ ?_⟩
  · rintro i y σ H' hi ⟨v4, rfl, rfl, hg⟩
    obtain ⟨n, hn2, rfl⟩ := mapi_get hi
    refine ⟨_, rfl, n, 9, rfl, hb n (List.mem_of_getElem? hn2), fun ok => ?_, fun bad H3 d S3 hd3 e3 => ?_⟩
    · refine ⟨_, rfl, rfl, fun j m hj hm => ?_⟩
      by_cases e : j < i
      · exact hg j m e hm
      · have e2 : j = i := by omega
        subst e2
        rw [hn2] at hm
        cases hm
        unfold badH
        simp
        omega
    · have hf : ns.find? badH = some n := by
        rw [List.find?_eq_some_iff_getElem]
        refine ⟨by unfold badH; simp; omega, i, (List.getElem?_eq_some_iff.mp hn2).1, (List.getElem?_eq_some_iff.mp hn2).2, fun j hj => ?_⟩
        have := hg j _ hj (List.getElem?_eq_getElem (Nat.lt_trans hj (List.getElem?_eq_some_iff.mp hn2).1))
        simp [this]
      rw [hf] at k2
      exact k2 H3 d (But.of (S2.trans S3)) (S2.free hd3) e3
  · rintro σ H' ⟨v4, rfl, rfl, hg⟩
    have hf : ns.find? badH = none := by
      rw [List.find?_eq_none]
      intro n hn2
      obtain ⟨j, hj, e⟩ := List.getElem_of_mem hn2
      have := hg j n (by simpa using hj) (by rw [List.getElem?_eq_getElem hj, e])
      simp [this]
    rw [hf] at k2
    refine ⟨_, rfl, _, rfl, z, l, _, rfl, SqL.of hl, by rw [List.length_map]; exact heq.symm, hzl, fun H3 q ts S3 hq hts nq eq hP => ?_⟩
    have hp3 := (S2.trans S3) _ _ hp
    refine ⟨_, rfl, p, _, dx, _, rfl, hp3, T.cl_Row, T.na_Row__pairs, by show 0 < 1000; decide, ?_⟩
    have S23 := S2.trans S3
    refine k2 _ q ((But.of S23).upd (.inl (by simp))) (S2.free hq) ⟨dx, upd_same, ts, ?_, ?_⟩
    · rw [upd_ne (fun z => by rw [z, hp3] at eq; cases eq)]
      exact eq
    · exact (zkv_pairs hP).keep (Tups.upd (fun _ _ e => e) fun xs e => by rw [hp3] at e; cases e)
end
end Rz

namespace Rz
open PySem PySem.Spec PyProof.Rows L2
/-- what Row(z, ..) asks for where it can be made -/
theorem row_new {cB cU cH cR : Addr} {H : Hp} {Q : VK} {E : XK} {z : Str} {hv : V} {ns : List Int} {vs dvs : List V} (e : vs ++ dvs = [.str z, hv]) (hz : z.length ≤ 1000000) (hA : HtsArg H z ns hv) (hrr : rr z ns = .row)
    (k : ∀ (H' : Hp) (x l : Addr), Same H H' → H x = none → H l = none → RAt cR H' x l (z.cps.toList.zip ns) → Q (.ref x) H') : MkR cR (sp_Row_init cB cU cH cR) dvs E vs H Q := by
  rw [mkR_eq, e]
  intro x dx hx hdx ndx
  have hA2 : HtsArg (upd (upd H dx (.own x)) x (.ins cR dx [])) z ns hv := by
    rcases hA with h | ⟨l, e, hl, r⟩
    · exact .inl h
    · exact .inr ⟨l, e, by rw [upd_ne (ne_of_none hl hx), upd_ne (ne_of_none hl hdx)]; exact hl, r⟩
  refine ⟨x, dx, z, hv, ns, rfl, hz, upd_same, hA2, ?_⟩
  rw [hrr]
  intro H4 m B hm hR
  refine ⟨rfl, k H4 x m (fun b o e => ?_) hx ?_ hR⟩
  · exact B b o (by have := ne_of_none e hx; simpa using this) (by rw [upd_ne (ne_of_none e hx), upd_ne (ne_of_none e hdx)]; exact e)
  · cases q : H m with
    | none => rfl
    | some o =>
      rw [upd_ne (ne_of_none q hx), upd_ne (ne_of_none q hdx), q] at hm
      cases hm
theorem rr_empty : rr "" [] = .row := rfl
end Rz

namespace Rz
open PySem PySem.Spec PyProof.Rows L2
def sp_Row_signs (cR : Addr) : Sp := fun vs H Q _ => ∃ (p l : Addr) (ps : List Pr), vs = [.ref p] ∧ RAt cR H p l ps ∧ ps.length ≤ 1000000 ∧ ∀ H', Same H H' → Q (.str (tx ps)) H'
section
variable {w : World} {K : PySem.W.Frag} {mg : Str → Option Value} {base : Heap}
theorem sc_Row_signs : FnScope N_Row_signs P_Row_signs (defScope s_Row_signs) := ⟨rfl, rfl, rfl, by decide +kernel, rfl, by decide +kernel, by decide +kernel⟩
theorem ok_Row_signs (T : Txt K mg) : FnOk prg w K mg base (L2.CX prg w) 1 T.f_Row_signs T.fd_Row_signs P_Row_signs (sp_Row_signs T.c_Row) := by
  refine Rz.Fun.okN T.F_Row_signs sc_Row_signs (fun vs H Q E h => ?_) (fun cdv A outer s H vs Q E hr h => ?_)
  · obtain ⟨p, l, ps, rfl, _⟩ := h
    rfl
  obtain ⟨p, l, ps, rfl, ⟨dx, hp, hL⟩, hz, k⟩ := h
  have nd := sc_Row_signs.nd
  refine ⟨_, (pss_one (ps_ret (pe_join pe_str (pe_lc (own := [("sign", 1), ("_", 2)]) (g := gTup K 2 (gCons (gName 1) (gCons (gName 2) gNil))) (tt := tYes) rfl nd (pi_list (pe_fld (pv 0) rfl)) (blkOk_by (N := N_Row_signs) (sc := defScope s_Row_signs) (by decide +kernel)) (fun _ _ _ _ _ => (pg_tup rfl (pgs_cons (pg_name (i := 1) nd rfl (Or.inl rfl)) (pgs_cons (pg_name (i := 2) nd rfl (Or.inl rfl)) pgs_nil)))) (fun _ _ _ _ _ => pts_nil) (fun _ _ _ _ _ => (pv 1)))))), ?_⟩
  obtain ⟨ts, hl, hP⟩ := id hL
  refine ⟨⟨_, rfl⟩, _, rfl, p, _, dx, _, _, rfl, hp, T.cl_Row, T.na_Row__pairs, rfl, l, rfl, ⟨_, SqL.of hl⟩, fun D hD => lc_pairs (K := K) (l := l) (ps := ps) (fun q => .str ⟨#[q.1]⟩) hL (by rw [sizeLine_eq]; omega) hD ?_ ?_⟩
  · intro t q H2 Q2 _ S e c
    exact ⟨t, _, rfl, SqT.of e, rfl, _, _, rfl, _, _, rfl, rfl, rfl, _, rfl, c _ (Same.refl _)⟩
  · intro H2 S e
    have e2 : ps.map (fun q => V.str ⟨#[q.1]⟩) = (ps.map fun q => (⟨#[q.1]⟩ : Str)).map V.str := by rw [List.map_map]; rfl
    rw [e2] at e
    refine ⟨_, D, _, rfl, rfl, .inl (SqL.of e), ?_, ?_⟩
    · rw [sum_ones (fun y hy => by obtain ⟨q, _, rfl⟩ := List.mem_map.mp hy; rfl), List.length_map]
      show _ + _ * 0 ≤ _
      omega
    · rw [join_signs]
      exact k H2 S
end
end Rz

namespace Rz
open PySem PySem.Spec PyProof.Rows L2
def sp_Row_heights (cR : Addr) : Sp := fun vs H Q _ => ∃ (p l : Addr) (ps : List Pr), vs = [.ref p] ∧ RAt cR H p l ps ∧ ps.length ≤ 1000000 ∧ ∀ H' d, Same H H' → H d = none → H' d = some (.lst ((hts ps).map V.int)) → Q (.ref d) H'
section
variable {w : World} {K : PySem.W.Frag} {mg : Str → Option Value} {base : Heap}
theorem sc_Row_heights : FnScope N_Row_heights P_Row_heights (defScope s_Row_heights) := ⟨rfl, rfl, rfl, by decide +kernel, rfl, by decide +kernel, by decide +kernel⟩
theorem ok_Row_heights (T : Txt K mg) : FnOk prg w K mg base (L2.CX prg w) 1 T.f_Row_heights T.fd_Row_heights P_Row_heights (sp_Row_heights T.c_Row) := by
  refine Rz.Fun.okN T.F_Row_heights sc_Row_heights (fun vs H Q E h => ?_) (fun cdv A outer s H vs Q E hr h => ?_)
  · obtain ⟨p, l, ps, rfl, _⟩ := h
    rfl
  obtain ⟨p, l, ps, rfl, ⟨dx, hp, hL⟩, hz, k⟩ := h
  have nd := sc_Row_heights.nd
  refine ⟨_, (pss_one (ps_ret (pe_lc (own := [("_", 1), ("height", 2)]) (g := gTup K 2 (gCons (gName 1) (gCons (gName 2) gNil))) (tt := tYes) rfl nd (pi_list (pe_fld (pv 0) rfl)) (blkOk_by (N := N_Row_heights) (sc := defScope s_Row_heights) (by decide +kernel)) (fun _ _ _ _ _ => (pg_tup rfl (pgs_cons (pg_name (i := 1) nd rfl (Or.inl rfl)) (pgs_cons (pg_name (i := 2) nd rfl (Or.inl rfl)) pgs_nil)))) (fun _ _ _ _ _ => pts_nil) (fun _ _ _ _ _ => (pv 2))))), ?_⟩
  obtain ⟨ts, hl, hP⟩ := id hL
  refine ⟨_, rfl, p, _, dx, _, _, rfl, hp, T.cl_Row, T.na_Row__pairs, rfl, l, rfl, ⟨_, SqL.of hl⟩, fun D hD => lc_pairs (K := K) (l := l) (ps := ps) (fun q => .int q.2) hL (by rw [sizeLine_eq]; omega) hD ?_ ?_⟩
  · intro t q H2 Q2 _ S e c
    exact ⟨t, _, rfl, SqT.of e, rfl, _, _, rfl, _, _, rfl, rfl, rfl, _, rfl, c _ (Same.refl _)⟩
  · intro H2 S e
    refine k H2 D S hD ?_
    rw [e]
    unfold hts
    rw [List.map_map]
    rfl
end
end Rz

namespace Rz
open PySem PySem.Spec PyProof.Rows L2
def sp_Row_len (cR : Addr) : Sp := fun vs H Q _ => ∃ (p l : Addr) (ps : List Pr), vs = [.ref p] ∧ RAt cR H p l ps ∧ Q (.int (ps.length : Nat)) H
section
variable {w : World} {K : PySem.W.Frag} {mg : Str → Option Value} {base : Heap}
theorem sc_Row_len : FnScope N_Row_len P_Row_len (defScope s_Row_len) := ⟨rfl, rfl, rfl, by decide +kernel, rfl, by decide +kernel, by decide +kernel⟩
theorem ok_Row_len (T : Txt K mg) : FnOk prg w K mg base (L2.CX prg w) 1 T.f_Row_len T.fd_Row_len P_Row_len (sp_Row_len T.c_Row) := by
  refine Rz.Fun.okN T.F_Row_len sc_Row_len (fun vs H Q E h => ?_) (fun cdv A outer s H vs Q E hr h => ?_)
  · obtain ⟨p, l, ps, rfl, _⟩ := h
    rfl
  obtain ⟨p, l, ps, rfl, ⟨dx, hp, ts, hl, hP⟩, k⟩ := h
  refine ⟨_, (pss_one (ps_ret (pe_callB call_len_seq (by rfl) T.n_len PySem.boot_len (pa_cons (pe_fld (pv 0) rfl) pa_nil)))), ?_⟩
  refine ⟨_, rfl, p, _, dx, _, _, rfl, hp, T.cl_Row, T.na_Row__pairs, rfl, l, _, rfl, .inl (SqL.of hl), ?_⟩
  rw [List.length_map, hP.length]
  exact k
end
end Rz

namespace Rz
open PySem PySem.Spec PyProof.Rows L2
/-- an iterator over the row's list -/
def sp_Row_iter (cR : Addr) : Sp := fun vs H Q _ => ∃ (p l : Addr) (ps : List Pr), vs = [.ref p] ∧ RAt cR H p l ps ∧ ∀ it, H it = none → Q (.ref it) (upd H it (ItO l it 0))
section
variable {w : World} {K : PySem.W.Frag} {mg : Str → Option Value} {base : Heap}
theorem sc_Row_iter : FnScope N_Row_iter P_Row_iter (defScope s_Row_iter) := ⟨rfl, rfl, rfl, by decide +kernel, rfl, by decide +kernel, by decide +kernel⟩
theorem ok_Row_iter (T : Txt K mg) : FnOk prg w K mg base (L2.CX prg w) 1 T.f_Row_iter T.fd_Row_iter P_Row_iter (sp_Row_iter T.c_Row) := by
  refine Rz.Fun.okN T.F_Row_iter sc_Row_iter (fun vs H Q E h => ?_) (fun cdv A outer s H vs Q E hr h => ?_)
  · obtain ⟨p, l, ps, rfl, _⟩ := h
    rfl
  obtain ⟨p, l, ps, rfl, ⟨dx, hp, ts, hl, hP⟩, k⟩ := h
  refine ⟨_, (pss_one (ps_ret (pe_callB call_iterL (by rfl) T.n_iter (by decide +kernel) (pa_cons (pe_fld (pv 0) rfl) pa_nil)))), ?_⟩
  exact ⟨_, rfl, p, _, dx, _, _, rfl, hp, T.cl_Row, T.na_Row__pairs, rfl, l, _, rfl, SqL.of hl, k⟩
end
end Rz

namespace Rz
open PySem PySem.Spec PyProof.Rows L2
/-- the greatest height, 0 for none -/
def mostH (ps : List Pr) : Int := (hts ps).foldr max 0
theorem foldr_most : ∀ {ns : List Int} {m : Int}, m ∈ ns → (∀ y ∈ ns, y ≤ m) → 0 ≤ m → ns.foldr max 0 = m
  | n :: ns, m, hm, hall, h0 => by
    have hle : ∀ {xs : List Int}, (∀ y ∈ xs, y ≤ m) → xs.foldr max 0 ≤ m := fun {xs} h => by
      induction xs with
      | nil => exact h0
      | cons x xs ih =>
        have h1 := h x List.mem_cons_self
        have h2 := ih fun y hy => h y (List.mem_cons_of_mem _ hy)
        show max x (xs.foldr max 0) ≤ m
        omega
    have hge : ∀ {xs : List Int}, m ∈ xs → m ≤ xs.foldr max 0 := fun {xs} h => by
      induction xs with
      | nil => cases h
      | cons x xs ih =>
        show m ≤ max x (xs.foldr max 0)
        rcases List.mem_cons.mp h with e | e
        · omega
        · have := ih e
          omega
    have a := hle hall
    have b := hge hm
    omega
theorem most_of {ps : List Pr} {m : Int} (hm : m ∈ hts ps) (hall : ∀ y ∈ hts ps, y ≤ m) (h : GoodR ps) : m = mostH ps := by
  obtain ⟨q, hq, e⟩ := List.mem_map.mp hm
  have := (h q hq).2
  exact (foldr_most hm hall (by omega)).symm
theorem most_zero {ps : List Pr} {m : Int} (hm : m ∈ 0 :: hts ps) (hall : ∀ y ∈ 0 :: hts ps, y ≤ m) : m = mostH ps := by
  have h := foldr_most hm hall (hall 0 List.mem_cons_self)
  have e : (0 :: hts ps).foldr max 0 = max 0 (mostH ps) := rfl
  have t0 : 0 ≤ mostH ps := by
    unfold mostH
    generalize hts ps = ns
    induction ns with
    | nil => exact Int.le_refl 0
    | cons x xs ih =>
      show 0 ≤ max x (xs.foldr max 0)
      omega
  rw [e] at h
  omega
def sp_Row_abs (cR : Addr) : Sp := fun vs H Q _ => ∃ (p l : Addr) (ps : List Pr), vs = [.ref p] ∧ RAt cR H p l ps ∧ ps.length ≤ 1000000 ∧ GoodR ps ∧ ∀ H', Same H H' → Q (.int (mostH ps)) H'
section
variable {w : World} {K : PySem.W.Frag} {mg : Str → Option Value} {base : Heap}
theorem sc_Row_abs : FnScope N_Row_abs P_Row_abs (defScope s_Row_abs) := ⟨rfl, rfl, rfl, by decide +kernel, rfl, by decide +kernel, by decide +kernel⟩
theorem ok_Row_abs (T : Txt K mg) : FnOk prg w K mg base (L2.CX prg w) 4 T.f_Row_abs T.fd_Row_abs P_Row_abs (sp_Row_abs T.c_Row) := by
  refine Rz.Fun.okN T.F_Row_abs sc_Row_abs (fun vs H Q E h => ?_) (fun cdv A outer s H vs Q E hr h => ?_)
  · obtain ⟨p, l, ps, rfl, _⟩ := h
    rfl
  obtain ⟨p, l, ps, rfl, hR, hz, hg, k⟩ := h
  refine ⟨_, (pss_one (ps_ret (pe_callBK (call_maxDef (by rfl)) (by rfl) T.n_max (by decide +kernel) (pa_cons (pe_pr (pv 0) T.cl_Row T.M_Row_heights (ok_Row_heights T) (hr.mono (by decide)) T.b_Row_heights passN) pa_nil) (pk_cons pe_int pk_nil)))), ?_⟩
  obtain ⟨dx, hp, hL⟩ := id hR
  refine ⟨_, rfl, p, dx, _, rfl, hp, p, l, ps, rfl, hR, hz, fun H1 d S1 hd e1 => ?_⟩
  refine ⟨d, hts ps, 0, rfl, rfl, SqL.of e1, fun e0 => ?_, fun m hm hall => ?_⟩
  · have t : mostH ps = 0 := by
      unfold mostH
      rw [e0]
      rfl
    rw [← t]
    exact k H1 S1
  · rw [most_of hm hall hg]
    exact k H1 S1
end
end Rz

namespace Rz
open PySem PySem.Spec PyProof.Rows L2
def sp_law_pool (K : PySem.W.Frag) : Sp := fun vs H Q _ => ∃ (a : Addr) (ns : List Int), vs = [.ref a] ∧ SqL K H a (ns.map V.int) ∧ ns.length ≤ 63 ∧ ∀ H' d, Same H H' → H d = none → Dr H' d → Q (.ref d) H'
section
variable {w : World} {K : PySem.W.Frag} {mg : Str → Option Value} {base : Heap}
theorem sc_law_pool : FnScope N__law_pool P__law_pool (defScope s__law_pool) := ⟨rfl, rfl, rfl, by decide +kernel, rfl, by decide +kernel, by decide +kernel⟩
theorem ok_law_pool (T : Txt K mg) : FnOk prg w K mg base (L2.CX prg w) 1 T.f__law_pool T.fd__law_pool P__law_pool (sp_law_pool K) := by
  refine Rz.Fun.okN T.F__law_pool sc_law_pool (fun vs H Q E h => ?_) (fun cdv A outer s H vs Q E hr h => ?_)
  · obtain ⟨a, ns, rfl, _⟩ := h
    rfl
  obtain ⟨a, ns, rfl, hS, hlen, k⟩ := h
  have nd := sc_law_pool.nd
  refine ⟨_, pss_cons (ps_set (i := 1) nd rfl (Or.inl rfl) (pe_lst pa_nil)) (pss_cons (ps_set (i := 2) nd rfl (Or.inl rfl) pe_int)
    (pss_cons (ps_for PassesOwn.never rfl (pi_list (pv 0)) (pg_name (i := 3) nd rfl (Or.inl rfl))
      (pss_cons (ps_set (i := 4) nd rfl (Or.inl rfl) (pe_callB call_abs (by rfl) T.n_abs (by decide +kernel) (pa_cons (pv 3) pa_nil)))
      (pss_cons (ps_set (i := 2) nd rfl (Or.inl rfl) (pe_op op_mod (pe_callTy call_int1 (by rfl) T.n_int (by decide +kernel) (pa_cons (pe_op op_add (pe_op op_mul (pv 2) pe_int) (pv 4)) pa_nil)) pe_int))
      (pss_one (ps_if (pt_cmpR op_lt (pv 4) (pe_op op_pow pe_int pe_int) (nomark _))
        (pss_one (ps_expr (pe_bm PySem.F.plainAttrs_list PySem.F.slot_list_append PySem.F.type_list_append mt_append (pv 1) (pa_cons (pv 4) pa_nil))))
        (pss_one (ps_for PassesOwn.never rfl (pi_range1 rfl T.n_range (pa_cons pe_int pa_nil)) (pg_name (i := 5) nd rfl (Or.inl rfl))
          (pss_one (ps_if (pt_cmpR op_gt (pv 4) pe_int (nomark _))
            (pss_cons (ps_expr (pe_bm PySem.F.plainAttrs_list PySem.F.slot_list_append PySem.F.type_list_append mt_append (pv 1) (pa_cons (pe_op op_mod (pe_callTy call_int1 (by rfl) T.n_int (by decide +kernel) (pa_cons (pv 4) pa_nil)) pe_int) pa_nil)))
              (pss_one (ps_set (i := 4) nd rfl (Or.inl rfl) (pe_op op_fdiv (pv 4) pe_int))))
            pss_nil)))))))))
    (pss_cons (ps_for PassesOwn.never rfl (pi_range1 rfl T.n_range (pa_cons pe_int pa_nil)) (pg_name (i := 5) nd rfl (Or.inl rfl))
      (pss_cons (ps_set (i := 6) nd rfl (Or.inl rfl) (pe_op op_mod (pe_callTy call_int1 (by rfl) T.n_int (by decide +kernel) (pa_cons (pe_op op_mul (pe_op op_add (pv 2) pe_int) (pe_op op_add (pe_op op_fdiv (pe_op op_add (pe_op op_mul (pe_op op_mul pe_int (pv 5)) (pv 5)) (pe_op op_mul pe_int (pv 5))) pe_int) pe_int)) pa_nil)) pe_int))
        (pss_one (ps_expr (pe_bm PySem.F.plainAttrs_list PySem.F.slot_list_append PySem.F.type_list_append mt_append (pv 1) (pa_cons (pe_op op_mod (pe_callTy call_int1 (by rfl) T.n_int (by decide +kernel) (pa_cons (pe_op op_add (pe_op op_mul (pv 6) (pv 6)) (pv 5)) pa_nil)) pe_int) pa_nil))))))
    (pss_one (ps_ret (pv 1)))))), ?_⟩
  refine ⟨Nat.zero_le _, fun d hd => ?_⟩
  have S0 : Same H (upd H d (.lst [])) := Rz.Same.new (Same.refl H) hd
  refine ⟨_, rfl, a, rfl, ⟨_, S0.seq hS⟩, for_list (K := K) (a := a) (xs := ns.map V.int) (fun i σ H' => ∃ (ks : List Int) (sd : Int) (v3 v4 v5 v6 : Option V), σ = [some (.ref a), some (.ref d), some (.int sd), v3, v4, v5, v6] ∧ Same H H' ∧ H' d = some (.lst (ks.map V.int)) ∧ ks.length ≤ i * 60 ∧ 0 ≤ sd ∧ sd < 1009)
    ⟨[], 0, none, none, none, none, rfl, S0, upd_same, Nat.le_refl _, by omega, by omega⟩ (fun i σ H' _ ⟨_, _, _, _, _, _, _, R, _⟩ => R.seq hS) ?_ ?_⟩
  · rintro i y σ H' hi ⟨ks, sd, v3, v4, v5, v6, rfl, R, hK, hl, h0, h1⟩
    obtain ⟨u, hu, rfl⟩ := mapi_get hi
    have hi63 : i < ns.length := (List.getElem?_eq_some_iff.mp hu).1
    refine ⟨_, rfl, u, rfl, ?_⟩
    refine ⟨_, rfl, _, _, rfl, rfl, .inl ⟨by omega, by omega⟩, _, rfl, _, _, rfl, rfl, .inl ⟨_, rfl, _, _, rfl, rfl, (by show (0 : Int) < 1009; decide), ?_⟩⟩
    refine ⟨_, rfl, _, _, rfl, rfl, ⟨by decide, by decide, by decide⟩, _, _, rfl, rfl, _, rfl, ?_⟩
    generalize (if u < 0 then -u else u) = r
    have b0 : 0 ≤ (sd * 31 + r) % 1009 := by omega
    have b1 : (sd * 31 + r) % 1009 < 1009 := by omega
    refine ite2 (fun _ => ?_) (fun _ => ?_)
    · refine ⟨_, rfl, .inl ⟨rfl, _, SqL.of hK⟩, _, rfl, d, _, _, rfl, rfl, hK, (by rw [List.length_map, sizeLine_eq]; omega), ?_⟩
      exact ⟨ks ++ [r], (sd * 31 + r) % 1009, _, _, _, _, rfl, Rz.Same.upd R hd, by rw [upd_same, List.map_append]; rfl, by rw [List.length_append, List.length_singleton]; omega, b0, b1⟩
    · refine ⟨60, rfl, by decide, by decide, for_range (n := 60) (fun j σ H2 => ∃ (ks2 : List Int) (r2 : Int) (v5 : Option V), σ = [some (.ref a), some (.ref d), some (.int ((sd * 31 + r) % 1009)), some (.int u), some (.int r2), v5, v6] ∧ Same H H2 ∧ H2 d = some (.lst (ks2.map V.int)) ∧ ks2.length ≤ i * 60 + j)
        ⟨ks, r, _, rfl, R, hK, by omega⟩ ?_ ?_⟩
      · rintro j σ2 H2 hj ⟨ks2, r2, v7, rfl, R2, hK2, hl2⟩
        refine ⟨_, rfl, _, _, rfl, rfl, _, rfl, ?_⟩
        refine ite2 (fun _ => ?_) (fun _ => ?_)
        · refine ⟨_, rfl, .inl ⟨rfl, _, SqL.of hK2⟩, _, rfl, .inl ⟨_, rfl, _, _, rfl, rfl, (by show (0 : Int) < 1000; decide), d, _, _, rfl, rfl, hK2, (by rw [List.length_map, sizeLine_eq]; omega), ?_⟩⟩
          refine ⟨_, rfl, _, _, rfl, rfl, ⟨by decide, by decide⟩, ?_⟩
          exact ⟨ks2 ++ [r2 % 1000], _, _, rfl, Rz.Same.upd R2 hd, by rw [upd_same, List.map_append]; rfl, by rw [List.length_append, List.length_singleton]; omega⟩
        · exact ⟨ks2, r2, _, rfl, R2, hK2, by omega⟩
      · rintro σ2 H2 ⟨ks2, r2, v7, rfl, R2, hK2, hl2⟩
        exact ⟨ks2, (sd * 31 + r) % 1009, _, _, _, _, rfl, R2, hK2, by omega, b0, b1⟩
  · rintro σ H' ⟨ks, sd, v3, v4, v5, v6, rfl, R, hK, hl, h0, h1⟩
    rw [List.length_map] at hl
    refine ⟨90, rfl, by decide, by decide, for_range (n := 90) (fun j σ H2 => ∃ (ks2 : List Int) (v5 v6 : Option V), σ = [some (.ref a), some (.ref d), some (.int sd), v3, v4, v5, v6] ∧ Same H H2 ∧ H2 d = some (.lst (ks2.map V.int)) ∧ ks2.length ≤ 3780 + j)
      ⟨ks, _, _, rfl, R, hK, by omega⟩ ?_ ?_⟩
    · rintro j σ2 H2 hj ⟨ks2, v7, v8, rfl, R2, hK2, hl2⟩
      refine ⟨_, rfl, _, _, rfl, rfl, _, rfl, _, _, rfl, rfl, .inl ⟨by decide, by decide⟩, _, rfl, _, _, rfl, rfl, .inl ⟨by omega, by omega⟩, _, rfl, _, _, rfl, rfl, .inl ⟨by decide, by decide⟩, _, _, rfl, rfl,
        _, _, rfl, rfl, ⟨by decide, by decide⟩, _, _, rfl, rfl, _, _, rfl, rfl, .inl ⟨by omega, by omega⟩, .inl ⟨_, rfl, _, _, rfl, rfl, (by show (0 : Int) < 1009; decide), ?_⟩⟩
      have m0 : ∀ z : Int, -(2 ^ 64) < z % 1009 ∧ z % 1009 < 2 ^ 64 := fun z => by omega
      refine ⟨_, rfl, .inl ⟨rfl, _, SqL.of hK2⟩, _, rfl, _, rfl, _, _, rfl, rfl, .inl (m0 _), _, rfl, _, _, rfl, rfl, .inl ⟨_, rfl, _, _, rfl, rfl, (by show (0 : Int) < 1013; decide), d, _, _, rfl, rfl, hK2, (by rw [List.length_map, sizeLine_eq]; omega), ?_⟩⟩
      exact ⟨ks2 ++ [_], _, _, rfl, Rz.Same.upd R2 hd, by rw [upd_same, List.map_append]; rfl, by rw [List.length_append, List.length_singleton]; omega⟩
    · rintro σ2 H2 ⟨ks2, v7, v8, rfl, R2, hK2, hl2⟩
      exact ⟨_, rfl, k H2 d R2 hd ⟨ks2, hK2, by omega⟩⟩
end
end Rz

namespace Rz
open PySem PySem.Spec PyProof.Rows L2
def sp_law_pick : Sp := fun vs H Q _ => ∃ (d : Addr) (m : Int), vs = [.ref d, .int m] ∧ 0 < m ∧ Dr H d ∧ ∀ H' r, 0 ≤ r → r < m → Dr H' d → But [d] H H' → Q (.int r) H'
section
variable {w : World} {K : PySem.W.Frag} {mg : Str → Option Value} {base : Heap}
theorem sc_law_pick : FnScope N__law_pick P__law_pick (defScope s__law_pick) := ⟨rfl, rfl, rfl, by decide +kernel, rfl, by decide +kernel, by decide +kernel⟩
theorem ok_law_pick (T : Txt K mg) : FnOk prg w K mg base (L2.CX prg w) 1 T.f__law_pick T.fd__law_pick P__law_pick sp_law_pick := by
  refine Rz.Fun.okN T.F__law_pick sc_law_pick (fun vs H Q E h => ?_) (fun cdv A outer s H vs Q E hr h => ?_)
  · obtain ⟨d, m, rfl, _⟩ := h
    rfl
  obtain ⟨d, m, rfl, hm, ⟨ns, hd, hl⟩, k⟩ := h
  have nd := sc_law_pick.nd
  refine ⟨_, (pss_cons (ps_if (pt_cmpR (op_eqD hr.units) (pv 0) (pe_lst pa_nil) (nomark _)) (pss_one (ps_ret pe_int)) pss_nil)
    (pss_one (ps_ret (pe_op op_mod (pe_callTy call_int1 (by rfl) T.n_int (by decide +kernel) (pa_cons (pe_bm PySem.F.plainAttrs_list PySem.F.slot_list_pop PySem.F.type_list_pop mt_popAt (pv 0) (pa_cons pe_int pa_nil)) pa_nil)) (pv 1))))), ?_⟩
  refine ⟨_, rfl, Nat.zero_le _, fun p hp => ?_⟩
  have np : d ≠ p := ne_of_none hd hp
  have hd2 : upd H p (.lst []) d = some (.lst (ns.map V.int)) := by rw [upd_ne np]; exact hd
  refine ⟨dInts ns, dInts [], dp_ints (SqL.of hd2), dp_ints (SqL.of upd_same), ints_shaped _, ints_shaped _, _, rfl, ?_⟩
  rw [ints_eqv]
  refine ite2 (fun e => ?_) (fun e => ?_)
  · exact k _ 0 (Int.le_refl _) hm ⟨ns, hd2, hl⟩ ((But.refl [d] H).upd (.inr hp))
  · have e2 : ns ≠ [] := fun z => e (decide_eq_true z)
    obtain ⟨x, r, rfl⟩ := List.exists_cons_of_ne_nil e2
    refine ⟨_, rfl, .inl ⟨rfl, _, SqL.of hd2⟩, d, _, 0, 0, .int x, rfl, rfl, hd2, by decide, by decide, (by simp [seqIndex?]), rfl, .inl ⟨x, rfl, ?_⟩⟩
    refine ⟨_, rfl, x, m, rfl, rfl, hm, ?_⟩
    refine k _ _ (Int.emod_nonneg _ (by omega)) (Int.emod_lt_of_pos _ hm) ⟨r, by rw [upd_same]; rfl, by simp at hl; omega⟩ (((But.refl [d] H).upd (.inr hp)).upd (.inl (by simp)))
end
end Rz

namespace Rz
open PySem PySem.Spec PyProof.Rows L2
def sp_law_is_int : Sp := fun vs H Q _ => ∃ n : Int, vs = [.int n] ∧ Q (.bl true) H
section
variable {w : World} {K : PySem.W.Frag} {mg : Str → Option Value} {base : Heap}
theorem sc_law_is_int : FnScope N__law_is_int P__law_is_int (defScope s__law_is_int) := ⟨rfl, rfl, rfl, by decide +kernel, rfl, by decide +kernel, by decide +kernel⟩
theorem ok_law_is_int (T : Txt K mg) : FnOk prg w K mg base (L2.CX prg w) 1 T.f__law_is_int T.fd__law_is_int P__law_is_int sp_law_is_int := by
  refine Rz.Fun.okN T.F__law_is_int sc_law_is_int (fun vs H Q E h => ?_) (fun cdv A outer s H vs Q E hr h => ?_)
  · obtain ⟨n, rfl, _⟩ := h
    rfl
  obtain ⟨n, rfl, k⟩ := h
  refine ⟨_, (pss_one (ps_ret (pe_and (pe_callB call_isi (by rfl) T.n_isinstance (by decide +kernel) (pa_cons (pv 0) (pa_cons (pe_bltn (v := .ty "int") (by rfl) T.n_int (by decide +kernel) rfl) pa_nil))) (pe_one (pe_not (pe_callB call_isi (by rfl) T.n_isinstance (by decide +kernel) (pa_cons (pv 0) (pa_cons (pe_bltn (v := .ty "bool") (by rfl) T.n_bool (by decide +kernel) rfl) pa_nil)))))))), ?_⟩
  refine ⟨_, rfl, _, _, .type "int", .type "int", true, rfl, .ty _, .base (.int n), kit_ty (by decide +kernel), true, rfl, ?_⟩
  exact iteT ⟨_, rfl, _, _, .type "int", .type "bool", false, rfl, .ty _, .base (.int n), kit_ty (by decide +kernel), false, rfl, k⟩
end
end Rz

namespace Rz
open PySem PySem.Spec PyProof.Rows L2
/-- the row has just these pairs: it is so told -/
def sp_law_shows (cR : Addr) : Sp := fun vs H Q _ => ∃ (p m l : Addr) (ps : List Pr), vs = [.ref p, .ref l] ∧ RAt cR H p m ps ∧ LAt H l ps ∧ GoodR ps ∧ ps.length ≤ 10000 ∧ ∀ H', Same H H' → Q (.bl true) H'
theorem code_le {c : Nat} (h : oddC c = false) : c ≤ 122 := by
  have m : c ∈ abc.cps.toList := by simpa [oddC] using h
  have e : ∀ x ∈ abc.cps.toList, x ≤ 122 := by decide +kernel
  exact e c m
abbrev dPr (p : Pr) : PyData := .tuple [.str ⟨#[p.1]⟩, .int p.2]
theorem dPr_shaped (p : Pr) (ho : oddC p.1 = false) : SeqAt.shaped (dPr p) = true := by
  have hlt := code_le ho
  show (PyData.canLayAll0 [PyData.str ⟨#[p.1]⟩, PyData.int p.2] && decide (PyData.depth (dPr p) ≤ 64)) = true
  have h : PyData.depth (dPr p) ≤ 64 := by
    show PyData.depthAll [PyData.str ⟨#[p.1]⟩, PyData.int p.2] + 1 ≤ 64
    simp [PyData.depthAll, PyData.depth]
  rw [decide_eq_true h]
  simp [PyData.canLayAll0, PyData.canLay0, PyData.strOk]
  omega
theorem dPr_eqv (p : Pr) : PyData.eqv (dPr p) (dPr p) = true := by
  show PyData.eqvAll _ _ = true
  simp [PyData.eqvAll, PyData.eqv]
theorem dPr_at {K : PySem.W.Frag} {H : Hp} {t : Addr} {p : Pr} (e : H t = some (.tup (prV p))) : Dp K H (.ref t) (dPr p) := .tup (SqT.of e) (.cons (.str _) (.cons (.int _) .nil))
theorem hts_at {ps : List Pr} {i : Nat} {q : Pr} (h : ps[i]? = some q) : ((hts ps).map V.int)[i]? = some (.int q.2) := by
  unfold hts
  rw [List.getElem?_map, List.getElem?_map, h]
  rfl
theorem PAt.at {H : Hp} : ∀ {ts : List Addr} {ps : List Pr} {i : Nat} {p : Pr}, PAt H ts ps → ps[i]? = some p → ∃ t, ts[i]? = some t ∧ H t = some (.tup (prV p))
  | _, _, i, p, .nil, h => by cases h
  | _, _, 0, p, .cons e r, h => by
    have z := Option.some.inj h
    subst z
    exact ⟨_, rfl, e⟩
  | _, _, i + 1, p, .cons e r, h => PAt.at (i := i) r (by simpa using h)
theorem ref_at {ts : List Addr} {i : Nat} {t : Addr} (h : ts[i]? = some t) : (ts.map V.ref)[i]? = some (.ref t) := by
  rw [List.getElem?_map, h]
  rfl
section
variable {w : World} {K : PySem.W.Frag} {mg : Str → Option Value} {base : Heap}
theorem sc_law_shows : FnScope N__law_shows P__law_shows (defScope s__law_shows) := ⟨rfl, rfl, rfl, by decide +kernel, rfl, by decide +kernel, by decide +kernel⟩
theorem ok_law_shows (T : Txt K mg) : FnOk prg w K mg base (L2.CX prg w) 6 T.f__law_shows T.fd__law_shows P__law_shows (sp_law_shows T.c_Row) := by
  refine Rz.Fun.okN T.F__law_shows sc_law_shows (fun vs H Q E h => ?_) (fun cdv A outer s H vs Q E hr h => ?_)
  · obtain ⟨p, m, l, ps, rfl, _⟩ := h
    rfl
  obtain ⟨p, m, l, ps, rfl, hR, hL, hg, hz, k⟩ := h
  have nd := sc_law_shows.nd
  refine ⟨_, (pss_cons (ps_if (PW.pt (pw_or (pt_not (pt_val (pe_callB (C8.call_isC T.is_Row) (by rfl) T.n_isinstance (by decide +kernel) (pa_cons (pv 0) (pa_cons (pe_glob (v := .ref T.c_Row) (by rfl) T.m_Row rfl) pa_nil))))) (pw_or (pt_not (pt_val (pe_callB call_isi (by rfl) T.n_isinstance (by decide +kernel) (pa_cons (pe_pr (pv 0) T.cl_Row T.M_Row_signs (ok_Row_signs T) (hr.mono (by decide)) T.b_Row_signs passN) (pa_cons (pe_bltn (v := .ty "str") (by rfl) T.n_str (by decide +kernel) rfl) pa_nil))))) (pw_or1 (pt_not (pt_val (pe_callB call_isi (by rfl) T.n_isinstance (by decide +kernel) (pa_cons (pe_pr (pv 0) T.cl_Row T.M_Row_heights (ok_Row_heights T) (hr.mono (by decide)) T.b_Row_heights passN) (pa_cons (pe_bltn (v := .ty "list") (by rfl) T.n_list (by decide +kernel) rfl) pa_nil))))))))) (pss_one (ps_ret pe_bl)) pss_nil)
    (pss_cons (ps_set (i := 2) nd rfl (Or.inl rfl) (pe_callTy (call_listR (by rfl) T.M_Row_iter (ok_Row_iter T) T.b_Row_iter T.M_Row_len (ok_Row_len T) T.b_Row_len (hr.mono (by decide))) (by rfl) T.n_list (by decide +kernel) (pa_cons (pv 0) pa_nil)))
    (pss_cons (ps_if (PW.pt (pw_or (pt_cmpR op_ne (pe_callB call_len_seq (by rfl) T.n_len PySem.boot_len (pa_cons (pv 2) pa_nil)) (pe_callB call_len_seq (by rfl) T.n_len PySem.boot_len (pa_cons (pv 1) pa_nil)) (nomark _)) (pw_or (pt_cmpR op_ne (pe_callB (call_lenO T.M_Row_len (ok_Row_len T) (hr.mono (by decide)) T.b_Row_len) (by rfl) T.n_len PySem.boot_len (pa_cons (pv 0) pa_nil)) (pe_callB call_len_seq (by rfl) T.n_len PySem.boot_len (pa_cons (pv 1) pa_nil)) (nomark _)) (pw_or1 (pt_cmpR op_ne (pe_callB call_len_seq (by rfl) T.n_len PySem.boot_len (pa_cons (pe_pr (pv 0) T.cl_Row T.M_Row_heights (ok_Row_heights T) (hr.mono (by decide)) T.b_Row_heights passN) pa_nil)) (pe_callB call_len_seq (by rfl) T.n_len PySem.boot_len (pa_cons (pv 1) pa_nil)) (nomark _)))))) (pss_one (ps_ret pe_bl)) pss_nil)
    (pss_cons (ps_for PassesOwn.never rfl (pi_range1 rfl T.n_range (pa_cons (pe_callB call_len_seq (by rfl) T.n_len PySem.boot_len (pa_cons (pv 1) pa_nil)) pa_nil)) (pg_name (i := 3) nd rfl (Or.inl rfl))
      (pss_cons (ps_if (PW.pt (pw_or (pt_not (pt_val (pe_callB call_isi (by rfl) T.n_isinstance (by decide +kernel) (pa_cons (pe_ix ix_list (pv 2) (pv 3) (fun _ _ => rfl)) (pa_cons (pe_bltn (v := .ty "tuple") (by rfl) T.n_tuple (by decide +kernel) rfl) pa_nil))))) (pw_or (pt_cmpR (op_neD hr.units) (pe_ix ix_list (pv 2) (pv 3) (fun _ _ => rfl)) (pe_ix ix_list (pv 1) (pv 3) (fun _ _ => rfl)) (nomark _)) (pw_or1 (pt_not (pt_val (pe_fn (ok_law_is_int T) (hr.mono (by decide)) (by rfl) T.m__law_is_int T.F__law_is_int.kp T.b__law_is_int .nil (fun _ => atN _) (pa_cons (pe_ix ix_tup (pe_ix ix_list (pv 2) (pv 3) (fun _ _ => rfl)) pe_int (fun _ _ => rfl)) pa_nil)))))))) (pss_one (ps_ret pe_bl)) pss_nil)
      (pss_one (ps_if (PW.pt (pw_or (pt_cmpR op_ne (pe_ix ix_list (pe_pr (pv 0) T.cl_Row T.M_Row_heights (ok_Row_heights T) (hr.mono (by decide)) T.b_Row_heights passN) (pv 3) (fun _ _ => rfl)) (pe_ix ix_tup (pe_ix ix_list (pv 1) (pv 3) (fun _ _ => rfl)) pe_int (fun _ _ => rfl)) (nomark _)) (pw_or1 (pt_not (pt_val (pe_fn (ok_law_is_int T) (hr.mono (by decide)) (by rfl) T.m__law_is_int T.F__law_is_int.kp T.b__law_is_int .nil (fun _ => atN _) (pa_cons (pe_ix ix_list (pe_pr (pv 0) T.cl_Row T.M_Row_heights (ok_Row_heights T) (hr.mono (by decide)) T.b_Row_heights passN) (pv 3) (fun _ _ => rfl)) pa_nil))))))) (pss_one (ps_ret pe_bl)) pss_nil))))
    (pss_cons (ps_if (PW.pt (pw_or (pt_cmpR op_ne (pe_pr (pv 0) T.cl_Row T.M_Row_signs (ok_Row_signs T) (hr.mono (by decide)) T.b_Row_signs passN) (pe_join pe_str (pe_lc (own := [("_law_pair", 4)]) (g := (gName 4)) (tt := tYes) rfl nd (pi_list (pv 1)) (blkOk_by (N := N__law_shows) (sc := defScope s__law_shows) (by decide +kernel)) (fun _ _ _ _ _ => (pg_name (i := 4) nd rfl (Or.inl rfl))) (fun _ _ _ _ _ => pts_nil) (fun _ _ _ _ _ => (pe_ix (show IxR _ (rIxT K) from ix_tup) (pv 4) pe_int (fun _ _ => rfl))))) (nomark _)) (pw_or1 (pt_not (pt_val (pe_fn (ok_law_is_int T) (hr.mono (by decide)) (by rfl) T.m__law_is_int T.F__law_is_int.kp T.b__law_is_int .nil (fun _ => atN _) (pa_cons (pe_callB (call_absO T.M_Row_abs (ok_Row_abs T) (hr.mono (by decide)) T.b_Row_abs) (by rfl) T.n_abs (by decide +kernel) (pa_cons (pv 0) pa_nil)) pa_nil))))))) (pss_one (ps_ret pe_bl)) pss_nil)
    (pss_one (ps_ret (pe_cmpR op_eq (pe_callB (call_absO T.M_Row_abs (ok_Row_abs T) (hr.mono (by decide)) T.b_Row_abs) (by rfl) T.n_abs (by decide +kernel) (pa_cons (pv 0) pa_nil)) (pe_callB (cr_max (by rfl)) (by rfl) T.n_max (by decide +kernel) (pa_cons (pe_op op_cat (pe_lst (pa_cons pe_int pa_nil)) (pe_lc (own := [("_law_pair", 4)]) (g := (gName 4)) (tt := tYes) rfl nd (pi_list (pv 1)) (blkOk_by (N := N__law_shows) (sc := defScope s__law_shows) (by decide +kernel)) (fun _ _ _ _ _ => (pg_name (i := 4) nd rfl (Or.inl rfl))) (fun _ _ _ _ _ => pts_nil) (fun _ _ _ _ _ => (pe_ix (show IxR _ (rIxT K) from ix_tup) (pv 4) pe_int (fun _ _ => rfl))))) pa_nil)) (nomark _))))))))), ?_⟩
  obtain ⟨dx, hp, hLm⟩ := id hR
  refine ⟨_, rfl, p, dx, _, rfl, hp, true, rfl, iteF ?_⟩
  refine ⟨_, rfl, p, dx, _, rfl, hp, p, m, ps, rfl, hR, by omega, fun H1 S1 => ?_⟩
  refine ⟨_, _, .type "str", .type "str", true, rfl, .ty _, .base (.str _), kit_ty (by decide +kernel), true, rfl, iteF ?_⟩
  have R1 := hR.same S1
  refine ⟨_, rfl, p, dx, _, rfl, S1 _ _ hp, p, m, ps, rfl, R1, by omega, fun H2 d2 S2 hd2 e2 => ?_⟩
  refine ⟨_, _, .type "list", .type "list", true, rfl, .ty _, .base (.lst e2), kit_ty (by decide +kernel), true, rfl, iteF ?_⟩
  have S02 := S1.trans S2
  have R2 := hR.same S02
  obtain ⟨tm, em, Pm⟩ := id (hLm.same S02)
  have lm := Pm.length
  refine ⟨_, rfl, p, dx, _, m, _, ps.length, rfl, S02 _ _ hp, SqL.of em, by omega, ?_, fun H3 R S3 q => ⟨p, m, ps, rfl, R2.same S3, q⟩, fun H3 R S3 q => ⟨p, m, ps, rfl, R2.same S3, q⟩, fun H3 q S3 hq eq => ?_⟩
  · show decide (ps.length > sizeLine) = false
    rw [decide_eq_false]
    rw [sizeLine_eq]
    omega
  have S03 := S02.trans S3
  have R3 := R2.same S3
  have L3 := hL.same S03
  obtain ⟨tl, el, Pl⟩ := id L3
  have ll := Pl.length
  refine ⟨_, rfl, q, _, rfl, .inl (SqL.of eq), _, rfl, l, _, rfl, .inl (SqL.of el), rfl, _, rfl, ?_⟩
  rw [List.length_map, List.length_map, lm, ll, decide_eq_true rfl]
  refine iteF ⟨_, rfl, p, dx, _, rfl, S03 _ _ hp, p, m, ps, rfl, R3, ps.length, rfl, by omega, _, rfl, l, _, rfl, .inl (SqL.of el), rfl, _, rfl, ?_⟩
  rw [List.length_map, ll, decide_eq_true rfl]
  refine iteF ⟨_, rfl, p, dx, _, rfl, S03 _ _ hp, p, m, ps, rfl, R3, by omega, fun H4 d4 S4 hd4 e4 => ⟨d4, _, rfl, .inl (SqL.of e4), _, rfl, l, _, rfl, .inl (SqL.of (S4 _ _ el)), rfl, _, rfl, ?_⟩⟩
  rw [List.length_map, List.length_map, hts_len, ll, decide_eq_true rfl]
  have S04 := S03.trans S4
  refine iteF ⟨_, rfl, l, _, rfl, .inl (SqL.of (S4 _ _ el)), _, rfl, by rw [List.length_map]; omega, by rw [List.length_map]; omega, for_range (n := (tl.map V.ref).length) (fun i σ H5 => ∃ v3 : Option V, σ = [some (.ref p), some (.ref l), some (.ref q), v3, none] ∧ Same H4 H5)
    ⟨none, rfl, Same.refl _⟩ ?_ ?_⟩
  · rintro i σ H5 hi ⟨v3, rfl, S5⟩
    have S05 := S04.trans S5
    rw [List.length_map, ll] at hi
    obtain ⟨pr, hpr⟩ : ∃ pr, ps[i]? = some pr := ⟨_, List.getElem?_eq_getElem hi⟩
    have Pm5 : PAt H5 tm ps := Pm.keep (Tups.of (S3.trans (S4.trans S5)))
    have Pl5 : PAt H5 tl ps := Pl.keep (Tups.of (S4.trans S5))
    obtain ⟨t, ht, et⟩ := Pm5.at hpr
    obtain ⟨u, hu, eu⟩ := Pl5.at hpr
    have eq5 := (S4.trans S5) _ _ eq
    have el5 := (S4.trans S5) _ _ el
    have at_q : ∀ {xs : List Addr} {y : Addr}, xs[i]? = some y → atI (xs.map V.ref) ((0 : Int) + i) = some (.ref y) := fun {xs y} h => by
      rw [Int.zero_add]
      exact atI_nat (ref_at h)
    refine ⟨_, rfl, _, rfl, q, _, _, _, rfl, rfl, SqL.of eq5, at_q ht, _, _, .type "tuple", .type "tuple", true, rfl, .ty _, .base (.tup et), kit_ty (by decide +kernel), true, rfl, iteF ?_⟩
    refine ⟨_, rfl, _, rfl, q, _, _, _, rfl, rfl, SqL.of eq5, at_q ht, _, rfl, _, rfl, l, _, _, _, rfl, rfl, SqL.of el5, at_q hu, dPr pr, dPr pr, dPr_at et, dPr_at eu, dPr_shaped pr (hg pr (List.mem_of_getElem? hpr)).1, dPr_shaped pr (hg pr (List.mem_of_getElem? hpr)).1, _, rfl, ?_⟩
    rw [dPr_eqv]
    refine iteF ⟨_, rfl, _, rfl, q, _, _, _, rfl, rfl, SqL.of eq5, at_q ht, t, _, _, _, rfl, rfl, SqT.of et, rfl, pr.2, rfl, true, rfl, iteF ?_⟩
    have R5 := hR.same S05
    refine ⟨_, rfl, p, dx, _, rfl, S05 _ _ hp, p, m, ps, rfl, R5, by omega, fun H6 d6 S6 hd6 e6 => ?_⟩
    have at_h : ∀ {H : Hp} {d : Addr}, H d = some (.lst ((hts ps).map V.int)) → atI ((hts ps).map V.int) ((0 : Int) + i) = some (.int pr.2) := fun {H d} _ => by
      rw [Int.zero_add]
      exact atI_nat (hts_at hpr)
    refine ⟨_, rfl, d6, _, _, _, rfl, rfl, SqL.of e6, at_h e6, _, rfl, _, rfl, l, _, _, _, rfl, rfl, SqL.of (S6 _ _ el5), at_q hu, u, _, _, _, rfl, rfl, SqT.of (S6 _ _ eu), rfl, rfl, _, rfl, ?_⟩
    rw [decide_eq_true rfl]
    refine iteF ⟨_, rfl, p, dx, _, rfl, (S05.trans S6) _ _ hp, p, m, ps, rfl, R5.same S6, by omega, fun H7 d7 S7 hd7 e7 => ?_⟩
    exact ⟨_, rfl, d7, _, _, _, rfl, rfl, SqL.of e7, at_h e7, pr.2, rfl, true, rfl, iteF ⟨_, rfl, S5.trans (S6.trans S7)⟩⟩
  · rintro σ H5 ⟨v3, rfl, S5⟩
    have S05 := S04.trans S5
    have zs : ps.length ≤ sizeLine := by rw [sizeLine_eq]; omega
    refine ⟨_, rfl, p, dx, _, rfl, S05 _ _ hp, p, m, ps, rfl, hR.same S05, by omega, fun H6 S6 => ?_⟩
    have S06 := S05.trans S6
    obtain ⟨t6, e6, P6⟩ := id (hL.same S06)
    refine ⟨⟨_, rfl⟩, _, rfl, l, rfl, ⟨_, SqL.of e6⟩, fun D hD => lc_pairs (K := K) (l := l) (ps := ps) (fun q => .str ⟨#[q.1]⟩) (hL.same S06) zs hD ?_ ?_⟩
    · intro t q H2 Q2 _ S e c
      exact ⟨rfl, _, rfl, t, _, _, _, rfl, rfl, SqT.of e, rfl, c _ (Same.refl _)⟩
    intro H7 S7 e7
    have e7' : ps.map (fun q => V.str ⟨#[q.1]⟩) = (ps.map fun q => (⟨#[q.1]⟩ : Str)).map V.str := by rw [List.map_map]; rfl
    rw [e7'] at e7
    refine ⟨_, D, _, rfl, rfl, .inl (SqL.of e7), ?_, ?_⟩
    · rw [sum_ones (fun y hy => by obtain ⟨q, _, rfl⟩ := List.mem_map.mp hy; rfl), List.length_map]
      show _ + _ * 0 ≤ _
      omega
    rw [join_signs]
    refine ⟨rfl, _, rfl, ?_⟩
    rw [decide_eq_true rfl]
    have S07 := S06.trans S7
    refine iteF ⟨_, rfl, p, dx, _, rfl, S07 _ _ hp, p, m, ps, rfl, hR.same S07, by omega, hg, fun H8 S8 => ⟨_, rfl, true, rfl, iteF ?_⟩⟩
    have S08 := S07.trans S8
    refine ⟨_, rfl, p, dx, _, rfl, S08 _ _ hp, p, m, ps, rfl, hR.same S08, by omega, hg, fun H9 S9 => ?_⟩
    have S09 := S08.trans S9
    refine ⟨by decide, fun z hz2 => ?_⟩
    have S9z := Rz.Same.new (o := .lst [.int 0]) S09 hz2
    obtain ⟨t9, e9, P9⟩ := id (hL.same S9z)
    refine ⟨_, rfl, l, rfl, ⟨_, SqL.of e9⟩, fun D2 hD2 => lc_pairs (K := K) (l := l) (ps := ps) (fun q => .int q.2) (hL.same S9z) zs hD2 ?_ ?_⟩
    · intro t q H2 Q2 _ S e c
      exact ⟨rfl, _, rfl, t, _, _, _, rfl, rfl, SqT.of e, rfl, c _ (Same.refl _)⟩
    intro H10 S10 e10
    have ez := S10 _ _ (show (upd H9 z (.lst [.int 0])) z = some (.lst [.int 0]) from upd_same)
    refine ⟨z, D2, _, _, rfl, rfl, ez, e10, ?_, fun w hw => ?_⟩
    · rw [List.length_map, sizeLine_eq]
      show 1 + ps.length ≤ _
      omega
    refine ⟨w, 0 :: hts ps, rfl, SqL.of ?_, by show 0 < (hts ps).length + 1; omega, fun mm hm hall => ⟨rfl, ?_⟩⟩
    · rw [upd_same]
      unfold hts
      rw [List.map_cons, List.map_map]
      rfl
    · rw [most_zero hm hall, decide_eq_true rfl]
      exact k _ (Rz.Same.new (S9z.trans S10) hw)
end
end Rz

namespace Rz
open PySem PySem.Spec PyProof.Rows L2
/-- a new list of pairs -/
def sp_law_row_of : Sp := fun vs H Q _ => ∃ (d : Addr) (g : Int), vs = [.ref d, .int g] ∧ 0 ≤ g ∧ g ≤ 100 ∧ Dr H d ∧
  ∀ H' l (ps : List Pr), H l = none → GoodR ps → (ps.length : Int) ≤ g * 12 → LAt H' l ps → Dr H' d → But [d] H H' → Q (.ref l) H'
theorem dr_tups {H H' : Hp} {d : Addr} (D : Dr H d) (B : But [d] H H') : Tups H H' := Tups.but B fun b hb xs e => by
  have e2 : b = d := by simpa using hb
  obtain ⟨ns, q, _⟩ := D
  rw [e2, q] at e
  cases e
theorem even_abc {c : Nat} (h : c ∈ abc.cps.toList) : oddC c = false := by
  unfold oddC
  rw [decide_eq_true h]
  rfl
theorem good_rep {ps : List Pr} (h : GoodR ps) (n : Nat) : GoodR (List.replicate n ps).flatten := fun p hp => by
  obtain ⟨l, hl, hp⟩ := List.mem_flatten.mp hp
  rw [(List.mem_replicate.mp hl).2] at hp
  exact h p hp
theorem len_rep (ps : List Pr) (n : Nat) : (List.replicate n ps).flatten.length = n * ps.length := by
  induction n with
  | zero => simp
  | succ n ih => rw [List.replicate_succ, List.flatten_cons, List.length_append, ih, Nat.succ_mul, Nat.add_comm]
theorem map_rep (ts : List Addr) (n : Nat) : (List.replicate n (ts.map V.ref)).flatten = (List.replicate n ts).flatten.map V.ref := by
  induction n with
  | zero => rfl
  | succ n ih => rw [List.replicate_succ, List.replicate_succ, List.flatten_cons, List.flatten_cons, List.map_append, ih]
section
variable {w : World} {K : PySem.W.Frag} {mg : Str → Option Value} {base : Heap}
theorem sc_law_row_of : FnScope N__law_row_of P__law_row_of (defScope s__law_row_of) := ⟨rfl, rfl, rfl, by decide +kernel, rfl, by decide +kernel, by decide +kernel⟩
theorem ok_law_row_of (T : Txt K mg) : FnOk prg w K mg base (L2.CX prg w) 2 T.f__law_row_of T.fd__law_row_of P__law_row_of sp_law_row_of := by
  refine Rz.Fun.okN T.F__law_row_of sc_law_row_of (fun vs H Q E h => ?_) (fun cdv A outer s H vs Q E hr h => ?_)
  · obtain ⟨d, g, rfl, _⟩ := h
    rfl
  obtain ⟨d, g, rfl, g0, g1, hD, k⟩ := h
  have nd := sc_law_row_of.nd
  refine ⟨_, (pss_cons (ps_set (i := 2) nd rfl (Or.inr rfl) pe_str)
    (pss_cons (ps_set (i := 3) nd rfl (Or.inr rfl) (pe_op op_add pe_int (pe_fn (ok_law_pick T) (hr.mono (by decide)) (by rfl) T.m__law_pick T.F__law_pick.kp T.b__law_pick .nil (fun _ => atN _) (pa_cons (pv 0) (pa_cons pe_int pa_nil)))))
    (pss_cons (ps_set (i := 4) nd rfl (Or.inl rfl) (pe_fn (ok_law_pick T) (hr.mono (by decide)) (by rfl) T.m__law_pick T.F__law_pick.kp T.b__law_pick .nil (fun _ => atN _) (pa_cons (pv 0) (pa_cons (pe_op op_add (pv 1) pe_int) pa_nil))))
    (pss_cons (ps_setLc (i := 6) (own := [("_law_k", 5)]) (g := (gName 5)) (tt := tYes) rfl nd rfl rfl (sw_true rfl rfl rfl (by decide +kernel)) (pi_range1 rfl T.n_range (pa_cons (pv 4) pa_nil)) (blkOk_by (N := N__law_row_of) (sc := defScope s__law_row_of) (by decide +kernel)) (fun _ _ _ _ _ => (pg_name (i := 5) nd rfl (Or.inl rfl))) (fun _ _ _ _ _ => pts_nil) (fun _ _ _ _ _ => (pe_tup (pa_cons (pe_ix ix_str (pv 2) (pe_fn (ok_law_pick T) (hr.mono (by decide)) (by rfl) T.m__law_pick T.F__law_pick.kp T.b__law_pick .nil (fun _ => atN _) (pa_cons (pv 0) (pa_cons (pv 3) pa_nil))) (fun _ _ => rfl)) (pa_cons (pe_fn (ok_law_pick T) (hr.mono (by decide)) (by rfl) T.m__law_pick T.F__law_pick.kp T.b__law_pick .nil (fun _ => atN _) (pa_cons (pv 0) (pa_cons pe_int pa_nil))) pa_nil)))))
    (pss_cons (ps_if (pt_cmpR op_eq (pe_fn (ok_law_pick T) (hr.mono (by decide)) (by rfl) T.m__law_pick T.F__law_pick.kp T.b__law_pick .nil (fun _ => atN _) (pa_cons (pv 0) (pa_cons pe_int pa_nil))) pe_int (nomark _)) (pss_one (ps_set (i := 6) nd rfl (Or.inl rfl) (pe_op op_rep (pv 6) (pe_op op_add pe_int (pe_fn (ok_law_pick T) (hr.mono (by decide)) (by rfl) T.m__law_pick T.F__law_pick.kp T.b__law_pick .nil (fun _ => atN _) (pa_cons (pv 0) (pa_cons pe_int pa_nil))))))) pss_nil)
    (pss_one (ps_ret (pv 6)))))))), ?_⟩
  refine ⟨_, rfl, d, 26, rfl, by decide, hD, fun H1 f f0 f1 D1 B1 => ⟨_, _, rfl, rfl, ?_⟩⟩
  refine ⟨_, rfl, _, rfl, _, _, rfl, rfl, d, _, rfl, by omega, D1, fun H2 z z0 z1 D2 B2 => ?_⟩
  have B02 := B1.trans B2
  refine ⟨_, rfl, z, rfl, by omega, by omega, fun D hDn => lc_range (lo := 0) (n := z.toNat) (fun i H3 => ∃ (ts : List Addr) (ps : List Pr), H3 D = some (.lst (ts.map V.ref)) ∧ PAt H3 ts ps ∧ ps.length = i ∧ GoodR ps ∧ Dr H3 d ∧ But [d] H H3) ?_ ?_ ?_⟩
  · have nDd : D ∉ [d] := fun h => by
      obtain ⟨_, q, _⟩ := D2
      have e : D = d := by simpa using h
      rw [e, q] at hDn
      cases hDn
    exact ⟨[], [], upd_same, .nil, rfl, (fun p hp => by cases hp), D2.same (Rz.Same.new (Same.refl _) hDn), B02.upd (.inr (B02.free nDd hDn))⟩
  · rintro i H3 hi ⟨ts, ps, hT, hP, hl, hg, D3, B3⟩
    refine ⟨rfl, yesT ⟨_, rfl, _, rfl, _, rfl, d, _, rfl, by omega, D3, fun H4 r r0 r1 D4 B4 => ?_⟩⟩
    have l26 : abc.cps.toList.length = 26 := by decide +kernel
    obtain ⟨c, hc, hat⟩ := atI_in (xs := abc.cps.toList) r0 (by omega)
    refine ⟨abc, _, c, rfl, rfl, by rw [sizeLine_eq]; decide, hat, _, rfl, d, 10, rfl, by decide, D4, fun H5 h h0 h1 D5 B5 => ⟨by show 2 ≤ sizeLine; decide, fun t ht => ?_⟩⟩
    have B35 := B4.trans B5
    have nDd : D ∉ [d] := fun h => by
      obtain ⟨_, q, _⟩ := D2
      have e : D = d := by simpa using h
      rw [e, q] at hDn
      cases hDn
    have ntd : t ∉ [d] := fun h => by
      obtain ⟨_, q, _⟩ := D5
      have e : t = d := by simpa using h
      rw [e, q] at ht
      cases ht
    have eD5 := B35.at hT nDd
    have S5 := Rz.Same.new (o := .tup [.str ⟨#[c]⟩, .int h]) (Same.refl H5) ht
    have lt := hP.length
    refine ⟨_, S5 _ _ eD5, by rw [List.length_map, sizeLine_eq]; omega, ts ++ [t], ps ++ [(c, h)], by rw [upd_same, List.map_append]; rfl, ?_, by rw [List.length_append, hl]; rfl, ?_, ?_, ?_⟩
    · have T35 : Tups H3 (upd (upd H5 t (.tup [.str ⟨#[c]⟩, .int h])) D (.lst (ts.map V.ref ++ [.ref t]))) := Tups.upd ((dr_tups D3 B35).trans (Tups.of S5)) fun xs e => by rw [S5 _ _ eD5] at e; cases e
      refine PAt.append (hP.keep T35) (.cons ?_ .nil)
      have ntD : t ≠ D := fun z => by rw [z, eD5] at ht; cases ht
      rw [upd_ne ntD, upd_same]
      rfl
    · intro p hp
      rcases List.mem_append.mp hp with hp | hp
      · exact hg p hp
      · have e : p = (c, h) := by simpa using hp
        subst e
        exact ⟨even_abc hc, h0, by show h ≤ 9; omega⟩
    · obtain ⟨ns, n1, n2⟩ := D5
      refine ⟨ns, ?_, n2⟩
      rw [upd_ne (fun z => nDd (by simp [z]))]
      exact S5 _ _ n1
    · refine ((B3.trans B35).upd (.inr ((B3.trans B35).free ntd ht))).upd (.inr ?_)
      exact B02.free nDd hDn
  · rintro H3 ⟨ts, ps, hT, hP, hl, hg, D3, B3⟩
    have nDd : D ∉ [d] := fun h => by
      obtain ⟨_, q, _⟩ := D2
      have e : D = d := by simpa using h
      rw [e, q] at hDn
      cases hDn
    have lt := hP.length
    refine ⟨_, rfl, d, 5, rfl, by decide, D3, fun H4 a a0 a1 D4 B4 => ⟨rfl, _, rfl, ?_⟩⟩
    have T34 := dr_tups D3 B4
    have eD4 := B4.at hT nDd
    refine ite2 (fun _ => ?_) (fun _ => ?_)
    · refine ⟨_, rfl, _, rfl, d, 12, rfl, by decide, D4, fun H5 n n0 n1 D5 B5 => ⟨_, _, rfl, rfl, ?_⟩⟩
      have eD5 := B5.at eD4 nDd
      refine ⟨D, _, _, rfl, rfl, eD5, by omega, by omega, ?_, fun l hln => ?_⟩
      · rw [List.length_map, sizeLine_eq, lt]
        have h1 : ps.length ≤ 100 := by omega
        have h2 : (1 + n).toNat ≤ 12 := by omega
        have := Nat.mul_le_mul h1 h2
        omega
      · have nld : l ∉ [d] := fun h => by
          obtain ⟨_, q, _⟩ := D5
          have e : l = d := by simpa using h
          rw [e, q] at hln
          cases hln
        have S5 := Rz.Same.new (o := .lst (List.replicate (1 + n).toNat (ts.map V.ref)).flatten) (Same.refl H5) hln
        have B05 := (B3.trans B4).trans B5
        refine ⟨_, rfl, k _ l (List.replicate (1 + n).toNat ps).flatten (B05.free nld hln) (good_rep hg _) ?_ ⟨(List.replicate (1 + n).toNat ts).flatten, ?_, ?_⟩ (D5.same S5) (B05.upd (.inr (B05.free nld hln)))⟩
        · rw [len_rep]
          have h1 : (ps.length : Int) ≤ g := by omega
          have h2 : ((1 + n).toNat : Int) ≤ 12 := by omega
          have h3 := Int.mul_le_mul h1 h2 (by omega) g0
          have e4 : ((((1 + n).toNat * ps.length : Nat)) : Int) = ((1 + n).toNat : Int) * (ps.length : Int) := by push_cast; rfl
          rw [e4, Int.mul_comm]
          exact h3
        · rw [upd_same, map_rep]
        · exact ((hP.keep (T34.trans ((dr_tups D4 B5).trans (Tups.of S5)))).rep _)
    · refine ⟨_, rfl, k _ D ps (B02.free nDd hDn) hg (by omega) ⟨ts, eD4, hP.keep T34⟩ D4 (B3.trans B4)⟩
end
end Rz

namespace Rz
open PySem PySem.Spec PyProof.Rows L2
def sp_law_as_row (cR : Addr) : Sp := fun vs H Q _ => ∃ (l : Addr) (ps : List Pr), vs = [.ref l] ∧ LAt H l ps ∧ GoodR ps ∧ ps.length ≤ 100000 ∧ ∀ H' p m, Same H H' → H p = none → H m = none → RAt cR H' p m ps → Q (.ref p) H'
section
variable {w : World} {K : PySem.W.Frag} {mg : Str → Option Value} {base : Heap}
theorem sc_law_as_row : FnScope N__law_as_row P__law_as_row (defScope s__law_as_row) := ⟨rfl, rfl, rfl, by decide +kernel, rfl, by decide +kernel, by decide +kernel⟩
theorem ok_law_as_row (T : Txt K mg) : FnOk prg w K mg base (L2.CX prg w) 6 T.f__law_as_row T.fd__law_as_row P__law_as_row (sp_law_as_row T.c_Row) := by
  refine Rz.Fun.okN T.F__law_as_row sc_law_as_row (fun vs H Q E h => ?_) (fun cdv A outer s H vs Q E hr h => ?_)
  · obtain ⟨l, ps, rfl, _⟩ := h
    rfl
  obtain ⟨l, ps, rfl, hL, hg, hz, k⟩ := h
  have nd := sc_law_as_row.nd
  obtain ⟨ds, vd, bd⟩ := bd_Row_init_3 T
  cases vd
  refine ⟨_, (pss_one (ps_ret (pe_mk ⟨T.mk_Row, T.M_Row_init.at_, T.M_Row_init.fn, T.kp_Row⟩ (ok_Row_init T) (hr.mono (by decide)) (by rfl) T.m_Row bd .nil (fun _ => atN _) (pa_cons (pe_join pe_str (pe_lc (own := [("_law_pair", 1)]) (g := (gName 1)) (tt := tYes) rfl nd (pi_list (pv 0)) (blkOk_by (N := N__law_as_row) (sc := defScope s__law_as_row) (by decide +kernel)) (fun _ _ _ _ _ => (pg_name (i := 1) nd rfl (Or.inl rfl))) (fun _ _ _ _ _ => pts_nil) (fun _ _ _ _ _ => (pe_ix (show IxR _ (rIxT K) from ix_tup) (pv 1) pe_int (fun _ _ => rfl))))) (pa_cons (pe_lc (own := [("_law_pair", 1)]) (g := (gName 1)) (tt := tYes) rfl nd (pi_list (pv 0)) (blkOk_by (N := N__law_as_row) (sc := defScope s__law_as_row) (by decide +kernel)) (fun _ _ _ _ _ => (pg_name (i := 1) nd rfl (Or.inl rfl))) (fun _ _ _ _ _ => pts_nil) (fun _ _ _ _ _ => (pe_ix (show IxR _ (rIxT K) from ix_tup) (pv 1) pe_int (fun _ _ => rfl)))) pa_nil))))), ?_⟩
  obtain ⟨ts, hl, hP⟩ := id hL
  have zs : ps.length ≤ sizeLine := by rw [sizeLine_eq]; omega
  refine ⟨⟨_, rfl⟩, _, rfl, l, rfl, ⟨_, SqL.of hl⟩, fun D hD => lc_pairs (K := K) (l := l) (ps := ps) (fun q => .str ⟨#[q.1]⟩) hL zs hD ?_ ?_⟩
  · intro t q H2 Q2 _ S e c
    exact ⟨rfl, _, rfl, t, _, _, _, rfl, rfl, SqT.of e, rfl, c _ (Same.refl _)⟩
  intro H2 S2 e2
  have e2' : ps.map (fun q => V.str ⟨#[q.1]⟩) = (ps.map fun q => (⟨#[q.1]⟩ : Str)).map V.str := by rw [List.map_map]; rfl
  rw [e2'] at e2
  refine ⟨_, D, _, rfl, rfl, .inl (SqL.of e2), ?_, ?_⟩
  · rw [sum_ones (fun y hy => by obtain ⟨q, _, rfl⟩ := List.mem_map.mp hy; rfl), List.length_map]
    show _ + _ * 0 ≤ _
    omega
  rw [join_signs]
  have hL2 := hL.same S2
  refine ⟨_, rfl, l, rfl, ⟨_, SqL.of (S2 _ _ hl)⟩, fun D2 hD2 => lc_pairs (K := K) (l := l) (ps := ps) (fun q => .int q.2) hL2 zs hD2 ?_ ?_⟩
  · intro t q H3 Q2 _ S e c
    exact ⟨rfl, _, rfl, t, _, _, _, rfl, rfl, SqT.of e, rfl, c _ (Same.refl _)⟩
  intro H3 S3 e3
  have e3' : H3 D2 = some (.lst ((hts ps).map V.int)) := by
    rw [e3]
    unfold hts
    rw [List.map_map]
    rfl
  intro x dx hx hdx ndx
  have S03 := S2.trans S3
  have nxD : D2 ≠ x := ne_of_none e3' hx
  have ndD : D2 ≠ dx := ne_of_none e3' hdx
  have small : ∀ n ∈ hts ps, n.natAbs < 2 ^ 64 := fun n hn => by
    obtain ⟨q, hq, rfl⟩ := List.mem_map.mp hn
    have := (hg q hq).2
    omega
  refine ⟨x, dx, tx ps, _, hts ps, rfl, by rw [tx_len]; omega, upd_same, .inr ⟨D2, rfl, by rw [upd_ne nxD, upd_ne ndD]; exact e3', by rw [hts_len]; omega, small⟩, ?_⟩
  rw [rr_good hg, tx_hts_zip]
  intro H4 m B hm hR
  refine ⟨rfl, k H4 x m ?_ (S03.free hx) ?_ hR⟩
  · intro b o e
    have e1 := S03 _ _ e
    exact B b o (by have := ne_of_none e1 hx; simpa using this) (by rw [upd_ne (ne_of_none e1 hx), upd_ne (ne_of_none e1 hdx)]; exact e1)
  · cases q : H m with
    | none => rfl
    | some o =>
      have e1 := S03 _ _ q
      rw [upd_ne (ne_of_none e1 hx), upd_ne (ne_of_none e1 hdx), e1] at hm
      cases hm
end
end Rz

namespace Rz
open PySem PySem.Spec PyProof.Rows L2
def sp_law_odd_sign : Sp := fun vs H Q _ => ∃ d : Addr, vs = [.ref d] ∧ Dr H d ∧ ∀ H' c, Dr H' d → But [d] H H' → Q (.str ⟨#[c]⟩) H'
section
variable {w : World} {K : PySem.W.Frag} {mg : Str → Option Value} {base : Heap}
theorem sc_law_odd_sign : FnScope N__law_odd_sign P__law_odd_sign (defScope s__law_odd_sign) := ⟨rfl, rfl, rfl, by decide +kernel, rfl, by decide +kernel, by decide +kernel⟩
theorem ok_law_odd_sign (T : Txt K mg) : FnOk prg w K mg base (L2.CX prg w) 2 T.f__law_odd_sign T.fd__law_odd_sign P__law_odd_sign sp_law_odd_sign := by
  refine Rz.Fun.okN T.F__law_odd_sign sc_law_odd_sign (fun vs H Q E h => ?_) (fun cdv A outer s H vs Q E hr h => ?_)
  · obtain ⟨d, rfl, _⟩ := h
    rfl
  obtain ⟨d, rfl, hD, k⟩ := h
  have nd := sc_law_odd_sign.nd
  refine ⟨_, (pss_cons (ps_set (i := 1) nd rfl (Or.inl rfl) pe_str)
    (pss_one (ps_ret (pe_ix ix_str (pv 1) (pe_fn (ok_law_pick T) (hr.mono (by decide)) (by rfl) T.m__law_pick T.F__law_pick.kp T.b__law_pick .nil (fun _ => atN _) (pa_cons (pv 0) (pa_cons (pe_callB call_len_str (by rfl) T.n_len PySem.boot_len (pa_cons (pv 1) pa_nil)) pa_nil))) (fun _ _ => rfl))))), ?_⟩
  refine ⟨_, rfl, _, rfl, _, rfl, _, rfl, by decide +kernel, d, _, rfl, by decide +kernel, hD, fun H1 r h0 h1 D1 B1 => ?_⟩
  obtain ⟨c, _, hat⟩ := atI_in h0 (by rw [len_list]; exact h1)
  exact ⟨_, _, c, rfl, rfl, by decide +kernel, hat, k H1 c D1 B1⟩
end
end Rz

namespace Rz
open PySem PySem.Spec PyProof.Rows L2
abbrev dPs (ps : List Pr) : PyData := .list (ps.map dPr)
theorem dps_all {K : PySem.W.Frag} {H : Hp} : ∀ {ts : List Addr} {ps : List Pr}, PAt H ts ps → DpAll K H (ts.map V.ref) (ps.map dPr)
  | _, _, .nil => .nil
  | _, _, .cons e r => .cons (dPr_at e) (dps_all r)
theorem dps_at {K : PySem.W.Frag} {H : Hp} {l : Addr} {ps : List Pr} (h : LAt H l ps) : Dp K H (.ref l) (dPs ps) := let ⟨_, h1, h2⟩ := h; .lst (SqL.of h1) (dps_all h2)
theorem dps_lay : ∀ {ps : List Pr}, GoodR ps → PyData.canLayAll0 (ps.map dPr) = true
  | [], _ => rfl
  | p :: ps, h => by
    have a : PyData.canLay0 (dPr p) = true := SeqAt.canLay_of_shaped (dPr_shaped p (h p List.mem_cons_self).1)
    have b := dps_lay (ps := ps) fun q hq => h q (List.mem_cons_of_mem _ hq)
    simp only [List.map_cons, PyData.canLayAll0, a, b, Bool.and_self]
theorem dps_depth : ∀ ps : List Pr, PyData.depthAll (ps.map dPr) ≤ 1
  | [] => by simp [PyData.depthAll]
  | p :: ps => by
    have b := dps_depth ps
    simp only [List.map_cons, PyData.depthAll]
    have a : PyData.depth (dPr p) = 1 := by simp [PyData.depth, PyData.depthAll]
    rw [a]
    omega
theorem dps_deep (ps : List Pr) : PyData.depth (dPs ps) ≤ 2 := by
  have := dps_depth ps
  show PyData.depthAll (ps.map dPr) + 1 ≤ 2
  omega
theorem dps_shaped {ps : List Pr} (h : GoodR ps) : SeqAt.shaped (dPs ps) = true := by
  have d : PyData.depth (dPs ps) ≤ 64 := Nat.le_trans (dps_deep ps) (by decide)
  show (PyData.canLayAll0 (ps.map dPr) && decide (PyData.depth (dPs ps) ≤ 64)) = true
  rw [dps_lay h, decide_eq_true d]
  rfl
theorem dPr_eqv2 (p q : Pr) : PyData.eqv (dPr p) (dPr q) = decide (p = q) := by
  show PyData.eqvAll [PyData.str ⟨#[p.1]⟩, PyData.int p.2] [PyData.str ⟨#[q.1]⟩, PyData.int q.2] = _
  obtain ⟨a, n⟩ := p
  obtain ⟨b, m⟩ := q
  simp [PyData.eqvAll, PyData.eqv]
  congr 1
  by_cases e : a = b
  · subst e
    simp
  · rw [decide_eq_false e]
    apply Bool.eq_false_iff.mpr
    intro h
    have h2 : (⟨#[a]⟩ : Str) = ⟨#[b]⟩ := eq_of_beq h
    have h3 : (#[a] : Array Nat) = #[b] := congrArg Str.cps h2
    exact e (by simpa using h3)
theorem dps_eqvA : ∀ ps qs : List Pr, PyData.eqvAll (ps.map dPr) (qs.map dPr) = decide (ps = qs)
  | [], [] => rfl
  | [], _ :: _ => by simp [PyData.eqvAll]
  | _ :: _, [] => by simp [PyData.eqvAll]
  | p :: ps, q :: qs => by
    rw [List.map_cons, List.map_cons, PyData.eqvAll, dps_eqvA ps qs, dPr_eqv2]
    simp
theorem dps_eqv (ps qs : List Pr) : PyData.eqv (dPs ps) (dPs qs) = decide (ps = qs) := by
  show PyData.eqvAll _ _ = _
  exact dps_eqvA ps qs
theorem dps_alikeA : ∀ ps qs : List Pr, PySem.W.alikeAll (ps.map dPr) (qs.map dPr) = true
  | [], _ => by simp [PySem.W.alikeAll]
  | _ :: _, [] => by simp [PySem.W.alikeAll]
  | p :: ps, q :: qs => by
    rw [List.map_cons, List.map_cons, PySem.W.alikeAll, dps_alikeA ps qs]
    simp [PySem.W.alike, PySem.W.alikeAll]
theorem dps_alike (ps qs : List Pr) : PySem.W.alike (dPs ps) (dPs qs) = true := by
  show PySem.W.alike (.list _) (.list _) = true
  rw [PySem.W.alike]
  exact dps_alikeA ps qs
/-- less as lists of pairs -/
@[irreducible] def ltP (ps qs : List Pr) : Bool := PySem.W.dataLt (dPs ps) (dPs qs)
theorem ltP_self (ps : List Pr) : ltP ps ps = false := by
  unfold ltP
  exact PyProof.Rows.lex_irrefl _
@[irreducible] def rLtP : R2 := fun x y H Q => ∃ (l m : Addr) (ps qs : List Pr), x = .ref l ∧ y = .ref m ∧ LAt H l ps ∧ LAt H m qs ∧ Q (.bl (ltP ps qs)) H
theorem op_ltP {X : Cx} (hu : X.A.units + 64 < cLine) : OpR X (compareOp .Lt) rLtP := by
  intro pins s σ H x y v u Q I rx ry h
  unfold rLtP at h
  obtain ⟨l, m, ps, qs, rfl, rfl, h1, h2, q⟩ := h
  refine op_ltD hu pins s σ H _ _ v u Q I rx ry ⟨dPs ps, dPs qs, dps_at h1, dps_at h2, dps_alike ps qs, nofun, ?_, ?_⟩
  · have := dps_deep ps
    omega
  · unfold ltP at q
    exact q
theorem rltP {H : Hp} {Q : VK} {l m : Addr} {ps qs : List Pr} (h1 : LAt H l ps) (h2 : LAt H m qs) (q : Q (.bl (ltP ps qs)) H) : rLtP (.ref l) (.ref m) H Q := by
  unfold rLtP
  exact ⟨l, m, ps, qs, rfl, rfl, h1, h2, q⟩
@[irreducible] def rEqP : R2 := fun x y H Q => ∃ (l m : Addr) (ps qs : List Pr), x = .ref l ∧ y = .ref m ∧ LAt H l ps ∧ LAt H m qs ∧ GoodR ps ∧ GoodR qs ∧ Q (.bl (decide (ps = qs))) H
theorem op_eqP {X : Cx} (hu : X.A.units + 64 < cLine) : OpR X (compareOp .Eq) rEqP := by
  intro pins s σ H x y v u Q I rx ry h
  unfold rEqP at h
  obtain ⟨l, m, ps, qs, rfl, rfl, h1, h2, g1, g2, q⟩ := h
  exact op_eqD hu pins s σ H _ _ v u Q I rx ry ⟨dPs ps, dPs qs, dps_at h1, dps_at h2, dps_shaped g1, dps_shaped g2, by rw [dps_eqv]; exact q⟩
theorem reqP {H : Hp} {Q : VK} {l m : Addr} {ps qs : List Pr} (h1 : LAt H l ps) (h2 : LAt H m qs) (g1 : GoodR ps) (g2 : GoodR qs) (q : Q (.bl (decide (ps = qs))) H) : rEqP (.ref l) (.ref m) H Q := by
  unfold rEqP
  exact ⟨l, m, ps, qs, rfl, rfl, h1, h2, g1, g2, q⟩
@[irreducible] def rNeP : R2 := fun x y H Q => ∃ (l m : Addr) (ps qs : List Pr), x = .ref l ∧ y = .ref m ∧ LAt H l ps ∧ LAt H m qs ∧ GoodR ps ∧ GoodR qs ∧ Q (.bl (!decide (ps = qs))) H
theorem op_neP {X : Cx} (hu : X.A.units + 64 < cLine) : OpR X (compareOp .NotEq) rNeP := by
  intro pins s σ H x y v u Q I rx ry h
  unfold rNeP at h
  obtain ⟨l, m, ps, qs, rfl, rfl, h1, h2, g1, g2, q⟩ := h
  exact op_neD hu pins s σ H _ _ v u Q I rx ry ⟨dPs ps, dPs qs, dps_at h1, dps_at h2, dps_shaped g1, dps_shaped g2, by rw [dps_eqv]; exact q⟩
theorem rneP {H : Hp} {Q : VK} {l m : Addr} {ps qs : List Pr} (h1 : LAt H l ps) (h2 : LAt H m qs) (g1 : GoodR ps) (g2 : GoodR qs) (q : Q (.bl (!decide (ps = qs))) H) : rNeP (.ref l) (.ref m) H Q := by
  unfold rNeP
  exact ⟨l, m, ps, qs, rfl, rfl, h1, h2, g1, g2, q⟩
end Rz

namespace Rz
open PySem PySem.Spec PyProof.Rows L2
def sp_law_is : Sp := fun vs H Q _ => ∃ b : Bool, vs = [.bl b, .bl b] ∧ Q (.bl true) H
section
variable {w : World} {K : PySem.W.Frag} {mg : Str → Option Value} {base : Heap}
theorem sc_law_is : FnScope N__law_is P__law_is (defScope s__law_is) := ⟨rfl, rfl, rfl, by decide +kernel, rfl, by decide +kernel, by decide +kernel⟩
theorem ok_law_is (T : Txt K mg) : FnOk prg w K mg base (L2.CX prg w) 1 T.f__law_is T.fd__law_is P__law_is sp_law_is := by
  refine Rz.Fun.okN T.F__law_is sc_law_is (fun vs H Q E h => ?_) (fun cdv A outer s H vs Q E hr h => ?_)
  · obtain ⟨n, rfl, _⟩ := h
    rfl
  obtain ⟨b, rfl, k⟩ := h
  refine ⟨_, (pss_one (ps_ret (pe_and (pe_callB call_isi (by rfl) T.n_isinstance (by decide +kernel) (pa_cons (pv 0) (pa_cons (pe_bltn (v := .ty "bool") (by rfl) T.n_bool (by decide +kernel) rfl) pa_nil))) (pe_one (pe_cmpR (op_eqD hr.units) (pv 0) (pv 1) (nomark _)))))), ?_⟩
  refine ⟨_, rfl, _, _, .type "bool", .type "bool", true, rfl, .ty _, .base (.bl b), kit_ty (by decide +kernel), true, rfl, ?_⟩
  refine iteT ⟨_, rfl, _, rfl, .bool b, .bool b, .bl b, .bl b, by cases b <;> decide +kernel, by cases b <;> decide +kernel, ?_⟩
  rw [show PyData.eqv (.bool b) (.bool b) = true from by cases b <;> decide +kernel]
  exact k
end
end Rz

namespace Rz
open PySem PySem.Spec PyProof.Rows L2
def sp_Row_eq (cR : Addr) : Sp := fun vs H Q _ => ∃ (p l q m : Addr) (ps qs : List Pr), vs = [.ref p, .ref q] ∧ RAt cR H p l ps ∧ RAt cR H q m qs ∧ GoodR ps ∧ GoodR qs ∧ Q (.bl (decide (ps = qs))) H
section
variable {w : World} {K : PySem.W.Frag} {mg : Str → Option Value} {base : Heap}
theorem sc_Row_eq : FnScope N_Row_eq P_Row_eq (defScope s_Row_eq) := ⟨rfl, rfl, rfl, by decide +kernel, rfl, by decide +kernel, by decide +kernel⟩
theorem ok_Row_eq (T : Txt K mg) : FnOk prg w K mg base (L2.CX prg w) 1 T.f_Row_eq T.fd_Row_eq P_Row_eq (sp_Row_eq T.c_Row) := by
  refine Rz.Fun.okN T.F_Row_eq sc_Row_eq (fun vs H Q E h => ?_) (fun cdv A outer s H vs Q E hr h => ?_)
  · obtain ⟨p, l, q, m, ps, qs, rfl, _⟩ := h
    rfl
  obtain ⟨p, l, q, m, ps, qs, rfl, ⟨dx, hp, hL⟩, ⟨dy, hq, hM⟩, gp, gq, k⟩ := h
  refine ⟨_, (pss_cons (ps_if (pt_not (pt_val (pe_callB (C8.call_isC T.is_Row) (by rfl) T.n_isinstance (by decide +kernel) (pa_cons (pv 1) (pa_cons (pe_glob (v := .ref T.c_Row) (by rfl) T.m_Row rfl) pa_nil))))) pss_never pss_nil)
    (pss_one (ps_ret (pe_cmpR (op_eqP hr.units) (pe_fld (pv 0) rfl) (pe_fld (pv 1) rfl) (nomark _))))), ?_⟩
  refine ⟨_, rfl, q, dy, _, rfl, hq, true, rfl, iteF ?_⟩
  exact ⟨_, rfl, p, _, dx, _, _, rfl, hp, T.cl_Row, T.na_Row__pairs, rfl, _, rfl, q, _, dy, _, _, rfl, hq, T.cl_Row, T.na_Row__pairs, rfl, reqP hL hM gp gq k⟩
end
end Rz

namespace Rz
open PySem PySem.Spec PyProof.Rows L2
/-- with a text or a list -/
def pr_Row_eqN (K : PySem.W.Frag) : List V → Hp → Prop := fun vs H => ∃ (p : Addr) (y : V), vs = [.ref p, y] ∧ StL K H y
section
variable {w : World} {K : PySem.W.Frag} {mg : Str → Option Value} {base : Heap}
theorem ok_Row_eqN (T : Txt K mg) : NiOk prg w K mg base 1 T.f_Row_eq T.fd_Row_eq P_Row_eq (pr_Row_eqN K) := by
  refine ni_of T.F_Row_eq sc_Row_eq rfl (fun cdv A outer s H vs hr h => ?_)
  obtain ⟨p, y, rfl, hy⟩ := h
  refine ⟨by rfl, T.n_NotImplemented, _, (pt_not (pt_val (pe_callB call_isi (by rfl) T.n_isinstance (by decide +kernel) (pa_cons (pv 1) (pa_cons (pe_glob (v := .ref T.c_Row) (by rfl) T.m_Row rfl) pa_nil))))), ?_⟩
  rcases hy with ⟨z, rfl⟩ | ⟨b, xs, rfl, hb⟩
  · exact ⟨_, rfl, _, _, .type "str", .ref T.c_Row, false, rfl, .own _, .base (.str _), T.fx_Row_kstr, false, rfl, rfl, rfl⟩
  · exact ⟨_, rfl, _, _, .type "list", .ref T.c_Row, false, rfl, .own _, .base (.lst hb), T.fx_Row_klst, false, rfl, rfl, rfl⟩
end
end Rz

namespace Rz
open PySem PySem.Spec PyProof.Rows L2
def sp_Row_lt (cR : Addr) : Sp := fun vs H Q _ => ∃ (p l q m : Addr) (ps qs : List Pr), vs = [.ref p, .ref q] ∧ RAt cR H p l ps ∧ RAt cR H q m qs ∧ Q (.bl (ltP ps qs)) H
section
variable {w : World} {K : PySem.W.Frag} {mg : Str → Option Value} {base : Heap}
theorem sc_Row_lt : FnScope N_Row_lt P_Row_lt (defScope s_Row_lt) := ⟨rfl, rfl, rfl, by decide +kernel, rfl, by decide +kernel, by decide +kernel⟩
theorem ok_Row_lt (T : Txt K mg) : FnOk prg w K mg base (L2.CX prg w) 1 T.f_Row_lt T.fd_Row_lt P_Row_lt (sp_Row_lt T.c_Row) := by
  refine Rz.Fun.okN T.F_Row_lt sc_Row_lt (fun vs H Q E h => ?_) (fun cdv A outer s H vs Q E hr h => ?_)
  · obtain ⟨p, l, q, m, ps, qs, rfl, _⟩ := h
    rfl
  obtain ⟨p, l, q, m, ps, qs, rfl, ⟨dx, hp, hL⟩, ⟨dy, hq, hM⟩, k⟩ := h
  refine ⟨_, (pss_cons (ps_if (pt_not (pt_val (pe_callB (C8.call_isC T.is_Row) (by rfl) T.n_isinstance (by decide +kernel) (pa_cons (pv 1) (pa_cons (pe_glob (v := .ref T.c_Row) (by rfl) T.m_Row rfl) pa_nil))))) pss_never pss_nil)
    (pss_one (ps_ret (pe_cmpR (op_ltP hr.units) (pe_fld (pv 0) rfl) (pe_fld (pv 1) rfl) (nomark _))))), ?_⟩
  refine ⟨_, rfl, q, dy, _, rfl, hq, true, rfl, iteF ?_⟩
  exact ⟨_, rfl, p, _, dx, _, _, rfl, hp, T.cl_Row, T.na_Row__pairs, rfl, _, rfl, q, _, dy, _, _, rfl, hq, T.cl_Row, T.na_Row__pairs, rfl, rltP hL hM k⟩
end
end Rz

namespace Rz
open PySem PySem.Spec PyProof.Rows L2
/-- the pairs qs stand side by side in ps -/
def inR (ps qs : List Pr) : Bool := (List.range (ps.length + 1 - qs.length)).any fun i => decide ((ps.drop i).take qs.length = qs)
def sp_Row_contains (cR : Addr) : Sp := fun vs H Q _ => ∃ (p l q m : Addr) (ps qs : List Pr), vs = [.ref p, .ref q] ∧ RAt cR H p l ps ∧ RAt cR H q m qs ∧ GoodR ps ∧ GoodR qs ∧ ps.length ≤ 10000 ∧ qs.length ≤ 10000 ∧ ∀ H', Same H H' → Q (.bl (inR ps qs)) H'
section
variable {w : World} {K : PySem.W.Frag} {mg : Str → Option Value} {base : Heap}
theorem sc_Row_contains : FnScope N_Row_contains P_Row_contains (defScope s_Row_contains) := ⟨rfl, rfl, rfl, by decide +kernel, rfl, by decide +kernel, by decide +kernel⟩
theorem ok_Row_contains (T : Txt K mg) : FnOk prg w K mg base (L2.CX prg w) 4 T.f_Row_contains T.fd_Row_contains P_Row_contains (sp_Row_contains T.c_Row) := by
  refine Rz.Fun.okN T.F_Row_contains sc_Row_contains (fun vs H Q E h => ?_) (fun cdv A outer s H vs Q E hr h => ?_)
  · obtain ⟨p, l, q, m, ps, qs, rfl, _⟩ := h
    rfl
  obtain ⟨p, l, q, m, ps, qs, rfl, hR, hS, gp, gq, zp, zq, k⟩ := h
  have nd := sc_Row_contains.nd
  refine ⟨_, (pss_cons (ps_if (pt_not (pt_val (pe_callB (C8.call_isC T.is_Row) (by rfl) T.n_isinstance (by decide +kernel) (pa_cons (pv 1) (pa_cons (pe_glob (v := .ref T.c_Row) (by rfl) T.m_Row rfl) pa_nil))))) pss_never pss_nil)
    (pss_cons (ps_set (i := 2) nd rfl (Or.inr rfl) (pe_callB (call_lenO T.M_Row_len (ok_Row_len T) (hr.mono (by decide)) T.b_Row_len) (by rfl) T.n_len PySem.boot_len (pa_cons (pv 1) pa_nil)))
    (pss_one (ps_ret (pe_callB (cr_any (by rfl)) (by rfl) T.n_any (by decide +kernel) (pa_cons (pe_lc (own := [("at", 3)]) (g := (gName 3)) (tt := tYes) rfl nd (pi_range1 rfl T.n_range (pa_cons (pe_op op_add (pe_op op_sub (pe_callB (call_lenO T.M_Row_len (ok_Row_len T) (hr.mono (by decide)) T.b_Row_len) (by rfl) T.n_len PySem.boot_len (pa_cons (pv 0) pa_nil)) (pv 2)) pe_int) pa_nil)) (blkOk_by (N := N_Row_contains) (sc := defScope s_Row_contains) (by decide +kernel)) (fun _ _ _ _ _ => (pg_name (i := 3) nd rfl (Or.inl rfl))) (fun _ _ _ _ _ => pts_nil)
      (fun _ _ _ _ _ => (pe_cmpR (show OpR _ (compareOp .Eq) rEqP from op_eqP hr.units) (pe_slice (show SlR _ (rSlL K) from sl_list) (show PE _ _ (tFld K (tVar 0) "_pairs") from pe_fld (pv 0) rfl) (po_some (pv 3)) (po_some (pe_op op_add (pv 3) (pv 2)))) (show PE _ _ (tFld K (tVar 1) "_pairs") from pe_fld (pv 1) rfl) (nomark _)))) pa_nil)))))), ?_⟩
  obtain ⟨dx, hp, hL⟩ := id hR
  obtain ⟨dy, hq, hM⟩ := id hS
  refine ⟨_, rfl, q, dy, _, rfl, hq, true, rfl, iteF ?_⟩
  refine ⟨_, rfl, q, dy, _, rfl, hq, q, m, qs, rfl, hS, qs.length, rfl, by omega, ?_⟩
  refine ⟨_, rfl, p, dx, _, rfl, hp, p, l, ps, rfl, hR, ps.length, rfl, by omega, _, rfl, _, _, rfl, rfl, _, _, rfl, rfl, _, rfl, by omega, by omega, fun D hDn => lc_range (lo := 0) (n := ((ps.length : Int) - (qs.length : Int) + 1).toNat) (fun i H3 => Same H H3 ∧ H3 D = some (.lst (((List.range i).map fun j => decide ((ps.drop j).take qs.length = qs)).map V.bl))) ?_ ?_ ?_⟩
  · exact ⟨Rz.Same.new (Same.refl H) hDn, upd_same⟩
  · rintro i H3 hi ⟨S3, e3⟩
    have hi2 : i + qs.length ≤ ps.length := by omega
    refine ⟨rfl, yesT ⟨_, rfl, p, _, dx, _, _, rfl, S3 _ _ hp, T.cl_Row, T.na_Row__pairs, rfl, _, rfl, _, rfl, _, rfl, _, rfl, _, _, rfl, rfl, _, rfl, ?_⟩⟩
    rw [show (0 : Int) + (i : Int) = (i : Int) from Int.zero_add _, show ((i : Int) + (qs.length : Nat)) = ((i + qs.length : Nat) : Int) from rfl]
    refine mid_go (hL.same S3) (by omega) hi2 (fun p2 H4 e4 S4 L4 => ?_)
    rw [Nat.add_sub_cancel_left] at L4
    refine ⟨_, rfl, q, _, dy, _, _, rfl, (S3.trans S4) _ _ hq, T.cl_Row, T.na_Row__pairs, rfl, reqP L4 (hM.same (S3.trans S4)) (good_take (good_drop gp _) _) gq ?_⟩
    refine ⟨_, S4 _ _ e3, by rw [List.length_map, List.length_map, List.length_range, sizeLine_eq]; omega, fun b o e => ?_, ?_⟩
    · rw [upd_ne (ne_of_none e hDn)]
      exact (S3.trans S4) b o e
    · rw [upd_same, List.range_succ, List.map_append, List.map_append]
      rfl
  · rintro H3 ⟨S3, e3⟩
    refine ⟨D, _, rfl, SqL.of e3, ?_⟩
    rw [List.any_map, show ((ps.length : Int) - (qs.length : Int) + 1).toNat = ps.length + 1 - qs.length by omega]
    exact k H3 S3
end
end Rz

namespace Rz
open PySem PySem.Spec PyProof.Rows L2
/-- the text z stands in y -/
def inT (y z : Str) : Bool := !(Builtin.Str.occurrences y z 0 y.length 1).isEmpty
def sp_Row_containsT (cR : Addr) : Sp := fun vs H Q _ => ∃ (p l : Addr) (ps : List Pr) (z : Str), vs = [.ref p, .str z] ∧ RAt cR H p l ps ∧ ps.length ≤ 10000 ∧ ∀ H', Same H H' → Q (.bl (inT (tx ps) z)) H'
section
variable {w : World} {K : PySem.W.Frag} {mg : Str → Option Value} {base : Heap}
theorem ok_Row_containsT (T : Txt K mg) : FnOk prg w K mg base (L2.CX prg w) 4 T.f_Row_contains T.fd_Row_contains P_Row_contains (sp_Row_containsT T.c_Row) := by
  refine Rz.Fun.okN T.F_Row_contains sc_Row_contains (fun vs H Q E h => ?_) (fun cdv A outer s H vs Q E hr h => ?_)
  · obtain ⟨p, l, ps, z, rfl, _⟩ := h
    rfl
  obtain ⟨p, l, ps, z, rfl, hR, zp, k⟩ := h
  refine ⟨_, (pss_cons (ps_if (pt_not (pt_val (pe_callB call_isi (by rfl) T.n_isinstance (by decide +kernel) (pa_cons (pv 1) (pa_cons (pe_glob (v := .ref T.c_Row) (by rfl) T.m_Row rfl) pa_nil))))) (pss_one (ps_ret (pe_cmpR op_in_str (pv 1) (pe_pr (pv 0) T.cl_Row T.M_Row_signs (ok_Row_signs T) (hr.mono (by decide)) T.b_Row_signs passN) rfl))) pss_nil) pss_never), ?_⟩
  obtain ⟨dx, hp, hL⟩ := id hR
  refine ⟨_, rfl, _, _, .type "str", .ref T.c_Row, false, rfl, .own _, .base (.str _), T.fx_Row_kstr, false, rfl, iteT ?_⟩
  exact ⟨_, rfl, _, rfl, p, dx, _, rfl, hp, p, l, ps, rfl, hR, by omega, fun H1 S1 => ⟨_, _, rfl, rfl, k H1 S1⟩⟩
end
end Rz

namespace Rz
open PySem PySem.Spec PyProof.Rows L2
/-- another row, or one near the given one -/
def sp_law_near : Sp := fun vs H Q _ => ∃ (d l : Addr) (ps : List Pr), vs = [.ref d, .ref l] ∧ l ≠ d ∧ Dr H d ∧ LAt H l ps ∧ GoodR ps ∧ ps.length ≤ 84 ∧
  ∀ H' m (qs : List Pr), H m = none → GoodR qs → qs.length ≤ 200 → LAt H' m qs → LAt H' l ps → Dr H' d → But [d] H H' → Q (.ref m) H'
section
variable {w : World} {K : PySem.W.Frag} {mg : Str → Option Value} {base : Heap}
theorem sc_law_near : FnScope N__law_near P__law_near (defScope s__law_near) := ⟨rfl, rfl, rfl, by decide +kernel, rfl, by decide +kernel, by decide +kernel⟩
theorem ok_law_near (T : Txt K mg) : FnOk prg w K mg base (L2.CX prg w) 3 T.f__law_near T.fd__law_near P__law_near sp_law_near := by
  refine Rz.Fun.okN T.F__law_near sc_law_near (fun vs H Q E h => ?_) (fun cdv A outer s H vs Q E hr h => ?_)
  · obtain ⟨d, l, ps, rfl, _⟩ := h
    rfl
  obtain ⟨d, l, ps, rfl, nld, hD, hL, hg, hz, k⟩ := h
  have nd := sc_law_near.nd
  have two : (2 : Nat) ≤ sizeLine := by decide
  refine ⟨_, (pss_cons (ps_set (i := 2) nd rfl (Or.inl rfl) pe_str)
    (pss_cons (ps_set (i := 3) nd rfl (Or.inl rfl) (pe_fn (ok_law_pick T) (hr.mono (by decide)) (by rfl) T.m__law_pick T.F__law_pick.kp T.b__law_pick .nil (fun _ => atN _) (pa_cons (pv 0) (pa_cons pe_int pa_nil))))
    (pss_cons (ps_set (i := 4) nd rfl (Or.inl rfl) (pe_fn (ok_law_pick T) (hr.mono (by decide)) (by rfl) T.m__law_pick T.F__law_pick.kp T.b__law_pick .nil (fun _ => atN _) (pa_cons (pv 0) (pa_cons (pe_op op_add (pe_callB call_lenS (by rfl) T.n_len PySem.boot_len (pa_cons (pv 1) pa_nil)) pe_int) pa_nil))))
    (pss_cons (ps_set (i := 5) nd rfl (Or.inl rfl) (pe_op op_add (pv 4) (pe_fn (ok_law_pick T) (hr.mono (by decide)) (by rfl) T.m__law_pick T.F__law_pick.kp T.b__law_pick .nil (fun _ => atN _) (pa_cons (pv 0) (pa_cons (pe_op op_add (pe_op op_sub (pe_callB call_lenS (by rfl) T.n_len PySem.boot_len (pa_cons (pv 1) pa_nil)) (pv 4)) pe_int) pa_nil)))))
    (pss_cons (ps_if (pt_cmpR op_eq (pv 3) pe_int (nomark _)) (pss_one (ps_ret (pe_fn (ok_law_row_of T) (hr.mono (by decide)) (by rfl) T.m__law_row_of T.F__law_row_of.kp T.b__law_row_of .nil (fun _ => atN _) (pa_cons (pv 0) (pa_cons pe_int pa_nil))))) pss_nil)
    (pss_cons (ps_if (pt_cmpR op_eq (pv 3) pe_int (nomark _)) (pss_one (ps_ret (pe_callTy call_listS (by rfl) T.n_list (by decide +kernel) (pa_cons (pv 1) pa_nil)))) pss_nil)
    (pss_cons (ps_if (pt_cmpR op_eq (pv 3) pe_int (nomark _)) (pss_one (ps_ret (pe_slice sl_list (pv 1) po_none (po_some (pv 4))))) pss_nil)
    (pss_cons (ps_if (PW.pt (pw_or (pt_cmpR op_eq (pv 3) pe_int (nomark _)) (pw_or1 (pt_cmpR op_eq (pv 4) (pe_callB call_lenS (by rfl) T.n_len PySem.boot_len (pa_cons (pv 1) pa_nil)) (nomark _))))) (pss_one (ps_ret (pe_slice sl_list (pv 1) (po_some (pv 4)) (po_some (pv 5))))) pss_nil)
    (pss_cons (ps_set (i := 6) nd rfl (Or.inl rfl) (pe_tup (pa_cons (pe_ix ix_tup (pe_ix ix_list (pv 1) (pv 4) (fun _ _ => rfl)) pe_int (fun _ _ => rfl)) (pa_cons (pe_fn (ok_law_pick T) (hr.mono (by decide)) (by rfl) T.m__law_pick T.F__law_pick.kp T.b__law_pick .nil (fun _ => atN _) (pa_cons (pv 0) (pa_cons pe_int pa_nil))) pa_nil))))
    (C8.pss_cut (ps_if (pt_cmpR op_eq (pv 3) pe_int (nomark _)) (pss_one (ps_set (i := 6) nd rfl (Or.inl rfl) (pe_tup (pa_cons (pe_ix ix_str (pv 2) (pe_fn (ok_law_pick T) (hr.mono (by decide)) (by rfl) T.m__law_pick T.F__law_pick.kp T.b__law_pick .nil (fun _ => atN _) (pa_cons (pv 0) (pa_cons pe_int pa_nil))) (fun _ _ => rfl)) (pa_cons (pe_ix ix_tup (pe_ix ix_list (pv 1) (pv 4) (fun _ _ => rfl)) pe_int (fun _ _ => rfl)) pa_nil))))) pss_nil)
    (pss_one (ps_ret (pe_op op_cat (pe_op op_cat (pe_slice sl_list (pv 1) po_none (po_some (pv 4))) (pe_lst (pa_cons (pv 6) pa_nil))) (pe_slice sl_list (pv 1) (po_some (pe_op op_add (pv 4) pe_int)) po_none)))))))))))))), ?_⟩
  refine ⟨_, rfl, d, 6, rfl, by decide, hD, fun H1 kd k0 k1 D1 B1 => ?_⟩
  have L1 := hL.but B1 (nin1 nld) (dr_tups hD B1)
  refine ⟨_, rfl, _, rfl, len_go L1 ⟨_, _, rfl, rfl, d, (ps.length : Int) + 1, rfl, by omega, D1, fun H2 at' a0 a1 D2 B2 => ?_⟩⟩
  obtain ⟨st, rfl⟩ := Int.eq_ofNat_of_zero_le a0
  have L2 := L1.but B2 (nin1 nld) (dr_tups D1 B2)
  refine ⟨_, rfl, _, rfl, _, rfl, len_go L2 ⟨_, rfl, _, _, rfl, rfl, _, _, rfl, rfl, d, (ps.length : Int) - st + 1, rfl, by omega, D2, fun H3 e e0 e1 D3 B3 => ⟨_, _, rfl, rfl, ?_⟩⟩⟩
  obtain ⟨e', rfl⟩ := Int.eq_ofNat_of_zero_le e0
  obtain ⟨en, hen⟩ : ∃ en : Nat, (st : Int) + (e' : Int) = (en : Int) := ⟨st + e', by omega⟩
  show gName 5 (V.int ((st : Int) + (e' : Int))) _ _ _
  rw [hen]
  have h1 : st ≤ en := by omega
  have h2 : en ≤ ps.length := by omega
  have L3 := L2.but B3 (nin1 nld) (dr_tups D2 B3)
  have B03 := (B1.trans B2).trans B3
  clear L1 L2 B1 B2 B3 D1 D2
  have nd3 : ∀ {p : Addr} {H' : Hp}, Same H3 H' → H' p = none → H p = none := fun {p H'} S hp => B03.free (fun h => by
    have e : p = d := by simpa using h
    obtain ⟨_, q, _⟩ := D3
    rw [e, S _ _ q] at hp
    cases hp) (S.free hp)
  have mid : ∀ {R : L2.Ends}, R.rt = Q → (tRet (tSl (rSlL K) (tVar 1) (tPart (tVar 4)) (tPart (tVar 5)))) R [some (.ref d), some (.ref l), some (.str abc), some (.int kd), some (.int (st : Nat)), some (.int (en : Nat)), none] H3 := fun {R} hR => by
    refine ⟨_, rfl, _, rfl, _, rfl, _, rfl, _, rfl, mid_go L3 h1 h2 (fun p H4 e4 S4 L4 => ?_)⟩
    show R.rt _ _
    rw [hR]
    exact k H4 p _ (nd3 (Same.refl _) e4) (good_take (good_drop hg _) _) (by rw [List.length_take, List.length_drop]; omega) L4 (L3.same S4) (D3.same S4) (B03.trans (But.of S4))
  refine ⟨_, rfl, rfl, _, rfl, ite2 (fun _ => ?_) (fun _ => ?_)⟩
  · exact ⟨_, rfl, d, 7, rfl, by decide, by decide, D3, fun H4 m qs f g z Lm D4 B4 => k H4 m qs (nd3 (Same.refl _) f) g (by omega) Lm (L3.but B4 (nin1 nld) (dr_tups D3 B4)) D4 (B03.trans B4)⟩
  refine ⟨_, rfl, rfl, _, rfl, ite2 (fun _ => ?_) (fun _ => ?_)⟩
  · exact ⟨_, rfl, copy_go L3 fun p H4 e4 S4 L4 => k H4 p ps (nd3 (Same.refl _) e4) hg (by omega) L4 (L3.same S4) (D3.same S4) (B03.trans (But.of S4))⟩
  refine ⟨_, rfl, rfl, _, rfl, ite2 (fun _ => ?_) (fun _ => ?_)⟩
  · exact ⟨_, rfl, _, rfl, _, rfl, to_go L3 (by omega) fun p H4 e4 S4 L4 => k H4 p _ (nd3 (Same.refl _) e4) (good_take hg _) (by rw [List.length_take]; omega) L4 (L3.same S4) (D3.same S4) (B03.trans (But.of S4))⟩
  refine ⟨_, rfl, rfl, _, rfl, ite2 (fun _ => iteT (mid rfl)) (fun _ => ?_)⟩
  refine ⟨_, rfl, _, rfl, len_go L3 ⟨rfl, _, rfl, ite2 (fun _ => mid rfl) (fun hne => ?_)⟩⟩
  have hlt : st < ps.length := by
    have : ¬ (V.int (st : Int) = V.int (ps.length : Nat)) := by simpa using hne
    have h3 : st ≠ ps.length := fun e => this (by rw [e])
    omega
  clear mid
  have hg0 := hg _ (List.getElem_mem hlt)
  obtain ⟨ts, hl, hP⟩ := id L3
  obtain ⟨u, hu, eu⟩ := hP.nth (List.getElem?_eq_getElem hlt)
  refine ⟨_, rfl, _, rfl, l, _, _, .ref u, rfl, rfl, SqL.of hl, atI_nat (ref_nth hu), u, _, _, _, rfl, rfl, SqT.of eu, rfl, ?_⟩
  refine ⟨_, rfl, d, 10, rfl, by decide, D3, fun H4 h hh0 hh1 D4 B4 => ⟨two, fun q hq => ?_⟩⟩
  have L4 := L3.but B4 (nin1 nld) (dr_tups D3 B4)
  have ndq : d ≠ q := apartNew D4.some hq
  have nlq : l ≠ q := apartNew L4.some hq
  have D5 := D4.upd (o := .tup [.str ⟨#[ps[st].1]⟩, .int h]) ndq
  have L5 := L4.upd (o := .tup [.str ⟨#[ps[st].1]⟩, .int h]) nlq (not_tupN hq)
  have B05 := (B03.trans B4).trans (But.of (D := [d]) (Rz.Same.new (o := .tup [.str ⟨#[ps[st].1]⟩, .int h]) (Same.refl H4) hq))
  have e5 : upd H4 q (.tup [.str ⟨#[ps[st].1]⟩, .int h]) q = some (.tup (prV (ps[st].1, h))) := upd_same
  generalize upd H4 q (.tup [.str ⟨#[ps[st].1]⟩, .int h]) = H5 at D5 L5 B05 e5
  refine ⟨fun σ H' => ∃ (q : Addr) (pr : Pr), σ = [some (.ref d), some (.ref l), some (.str abc), some (.int kd), some (.int (st : Nat)), some (.int (en : Nat)), some (.ref q)] ∧ (oddC pr.1 = false ∧ 0 ≤ pr.2 ∧ pr.2 ≤ 9) ∧ H' q = some (.tup (prV pr)) ∧ LAt H' l ps ∧ Dr H' d ∧ But [d] H H', ?_, ?_⟩
  · refine ⟨_, rfl, rfl, _, rfl, ite2 (fun _ => ?_) (fun _ => ?_)⟩
    · refine ⟨_, rfl, _, rfl, d, 26, rfl, by decide, D5, fun H6 r r0 r1 D6 B6 => ?_⟩
      obtain ⟨c, hc, hat⟩ := atI_in (xs := abc.cps.toList) r0 (by rw [len_list]; exact r1)
      have L6 := L5.but B6 (nin1 nld) (dr_tups D5 B6)
      obtain ⟨ts6, hl6, hP6⟩ := id L6
      obtain ⟨u6, hu6, eu6⟩ := hP6.nth (List.getElem?_eq_getElem hlt)
      refine ⟨abc, r, c, rfl, rfl, by decide +kernel, hat, _, rfl, _, rfl, l, _, _, .ref u6, rfl, rfl, SqL.of hl6, atI_nat (ref_nth hu6), u6, _, _, _, rfl, rfl, SqT.of eu6, rfl, two, fun q2 hq2 => ?_⟩
      have ndq2 : d ≠ q2 := apartNew D6.some hq2
      have nlq2 : l ≠ q2 := apartNew L6.some hq2
      exact ⟨q2, (c, ps[st].2), rfl, ⟨evC hc, hg0.2⟩, upd_same, L6.upd nlq2 (not_tupN hq2), D6.upd ndq2, (B05.trans B6).trans (But.of (Rz.Same.new (Same.refl H6) hq2))⟩
    · exact ⟨q, (ps[st].1, h), rfl, ⟨hg0.1, hh0, by show h ≤ 9; omega⟩, e5, L5, D5, B05⟩
  clear L5 e5 D5 B05 L4 L3 D3 B03 D4 B4 hq nd3 hP hl eu hu
  rintro σ H5 ⟨q, pr, rfl, gpr, e5, L5, D5, B05⟩
  refine ⟨_, rfl, _, rfl, _, rfl, to_go L5 (by omega) fun c1 H6 f6 S6 C1 => ⟨_, rfl, by show 1 ≤ sizeLine; decide, fun c2 hc2 => ?_⟩⟩
  have S7 := Rz.Same.new (o := .lst [.ref q]) (Same.refl H6) hc2
  have C2 : LAt (upd H6 c2 (.lst [.ref q])) c2 [pr] := ⟨[q], upd_same, .cons (S7 _ _ (S6 _ _ e5)) .nil⟩
  refine cat_go (C1.same S7) C2 (by rw [List.length_take]; show _ + 1 ≤ _; omega) fun c3 H8 f8 S8 C3 => ?_
  have S58 := (S6.trans S7).trans S8
  refine ⟨_, rfl, _, rfl, _, _, rfl, rfl, _, rfl, from_go (i := st + 1) (L5.same S58) (by omega) fun c4 H9 f9 S9 C4 => ?_⟩
  refine cat_go (C3.same S9) C4 (by rw [List.length_append, List.length_take, List.length_drop]; show _ + 1 + _ ≤ _; omega) fun c5 H10 f10 S10 C5 => ?_
  have S510 := (S58.trans S9).trans S10
  refine k H10 c5 _ ?_ (good_cat (good_cat (good_take hg _) fun x hx => ?_) (good_drop hg _)) ?_ C5 (L5.same S510) (D5.same S510) (B05.trans (But.of S510))
  · refine B05.free (fun h => ?_) ((S58.trans S9).free f10)
    have e : c5 = d := by simpa using h
    obtain ⟨_, q2, _⟩ := D5
    rw [e, (S58.trans S9) _ _ q2] at f10
    cases f10
  · have e : x = pr := by simpa using hx
    rw [e]
    exact gpr
  · rw [List.length_append, List.length_append, List.length_take, List.length_drop]
    show _ + 1 + _ ≤ _
    omega
end
end Rz

namespace Rz
open PySem PySem.Spec PyProof.Rows L2
/-- some text -/
def sp_law_string_of : Sp := fun vs H Q _ => ∃ (d l : Addr) (ps : List Pr), vs = [.ref d, .ref l] ∧ l ≠ d ∧ Dr H d ∧ LAt H l ps ∧ ps.length ≤ 84 ∧
  ∀ H' (z : Str), LAt H' l ps → Dr H' d → But [d] H H' → Q (.str z) H'
section
variable {w : World} {K : PySem.W.Frag} {mg : Str → Option Value} {base : Heap}
theorem sc_law_string_of : FnScope N__law_string_of P__law_string_of (defScope s__law_string_of) := ⟨rfl, rfl, rfl, by decide +kernel, rfl, by decide +kernel, by decide +kernel⟩
theorem ok_law_string_of (T : Txt K mg) : FnOk prg w K mg base (L2.CX prg w) 3 T.f__law_string_of T.fd__law_string_of P__law_string_of sp_law_string_of := by
  refine Rz.Fun.okN T.F__law_string_of sc_law_string_of (fun vs H Q E h => ?_) (fun cdv A outer s H vs Q E hr h => ?_)
  · obtain ⟨d, l, ps, rfl, _⟩ := h
    rfl
  obtain ⟨d, l, ps, rfl, nld, hD, hL, hz, k⟩ := h
  have nd := sc_law_string_of.nd
  refine ⟨_, (pss_cons (ps_set (i := 2) nd rfl (Or.inl rfl) pe_str)
    (pss_cons (ps_set (i := 4) nd rfl (Or.inl rfl) (pe_join pe_str (pe_lc (own := [("_law_pair", 3)]) (g := (gName 3)) (tt := tYes) rfl nd (pi_list (pv 1)) (blkOk_by (N := N__law_string_of) (sc := defScope s__law_string_of) (by decide +kernel)) (fun _ _ _ _ _ => (pg_name (i := 3) nd rfl (Or.inl rfl))) (fun _ _ _ _ _ => pts_nil) (fun _ _ _ _ _ => (pe_ix (show IxR _ (rIxT K) from ix_tup) (pv 3) pe_int (fun _ _ => rfl))))))
    (pss_cons (ps_set (i := 5) nd rfl (Or.inl rfl) (pe_fn (ok_law_pick T) (hr.mono (by decide)) (by rfl) T.m__law_pick T.F__law_pick.kp T.b__law_pick .nil (fun _ => atN _) (pa_cons (pv 0) (pa_cons (pe_op op_add (pe_callB call_len_str (by rfl) T.n_len PySem.boot_len (pa_cons (pv 4) pa_nil)) pe_int) pa_nil))))
    (pss_cons (ps_set (i := 6) nd rfl (Or.inl rfl) (pe_op op_add (pv 5) (pe_fn (ok_law_pick T) (hr.mono (by decide)) (by rfl) T.m__law_pick T.F__law_pick.kp T.b__law_pick .nil (fun _ => atN _) (pa_cons (pv 0) (pa_cons (pe_op op_add (pe_op op_sub (pe_callB call_len_str (by rfl) T.n_len PySem.boot_len (pa_cons (pv 4) pa_nil)) (pv 5)) pe_int) pa_nil)))))
    (pss_cons (ps_set (i := 7) nd rfl (Or.inl rfl) (pe_slice sl_str (pv 4) (po_some (pv 5)) (po_some (pv 6))))
    (pss_cons (ps_set (i := 8) nd rfl (Or.inl rfl) (pe_fn (ok_law_pick T) (hr.mono (by decide)) (by rfl) T.m__law_pick T.F__law_pick.kp T.b__law_pick .nil (fun _ => atN _) (pa_cons (pv 0) (pa_cons pe_int pa_nil))))
    (pss_cons (ps_if (pt_cmpR op_eq (pv 8) pe_int (nomark _)) (pss_one (ps_ret (pe_fn (ok_law_odd_sign T) (hr.mono (by decide)) (by rfl) T.m__law_odd_sign T.F__law_odd_sign.kp T.b__law_odd_sign .nil (fun _ => atN _) (pa_cons (pv 0) pa_nil)))) pss_nil)
    (pss_cons (ps_if (pt_cmpR op_eq (pv 8) pe_int (nomark _)) (pss_one (ps_ret (pe_op op_add_str (pe_ix ix_str (pv 2) (pe_fn (ok_law_pick T) (hr.mono (by decide)) (by rfl) T.m__law_pick T.F__law_pick.kp T.b__law_pick .nil (fun _ => atN _) (pa_cons (pv 0) (pa_cons pe_int pa_nil))) (fun _ _ => rfl)) (pe_ix ix_str (pv 2) (pe_fn (ok_law_pick T) (hr.mono (by decide)) (by rfl) T.m__law_pick T.F__law_pick.kp T.b__law_pick .nil (fun _ => atN _) (pa_cons (pv 0) (pa_cons pe_int pa_nil))) (fun _ _ => rfl))))) pss_nil)
    (pss_cons (ps_if (PW.pt (pw_and (pt_cmpR op_eq (pv 8) pe_int (nomark _)) (pw_and1 (pt_cmpR op_ne (pv 7) pe_str (nomark _))))) (pss_cons (ps_set (i := 9) nd rfl (Or.inl rfl) (pe_fn (ok_law_pick T) (hr.mono (by decide)) (by rfl) T.m__law_pick T.F__law_pick.kp T.b__law_pick .nil (fun _ => atN _) (pa_cons (pv 0) (pa_cons (pe_callB call_len_str (by rfl) T.n_len PySem.boot_len (pa_cons (pv 7) pa_nil)) pa_nil))))
      (pss_one (ps_ret (pe_op op_add_str (pe_op op_add_str (pe_slice sl_str (pv 7) po_none (po_some (pv 9))) (pe_ix ix_str (pv 2) (pe_fn (ok_law_pick T) (hr.mono (by decide)) (by rfl) T.m__law_pick T.F__law_pick.kp T.b__law_pick .nil (fun _ => atN _) (pa_cons (pv 0) (pa_cons pe_int pa_nil))) (fun _ _ => rfl))) (pe_slice sl_str (pv 7) (po_some (pe_op op_add (pv 9) pe_int)) po_none))))) pss_nil)
    (pss_one (ps_ret (pv 7)))))))))))), ?_⟩
  obtain ⟨ts, hl, hP⟩ := id hL
  have zs : ps.length ≤ sizeLine := by rw [sizeLine_eq]; omega
  refine ⟨⟨_, rfl⟩, _, rfl, l, rfl, ⟨_, SqL.of hl⟩, fun D hD' => lc_pairs (K := K) (l := l) (ps := ps) (fun q => .str ⟨#[q.1]⟩) hL zs hD' ?_ ?_⟩
  · intro t q H2 Q2 _ S e c
    exact ⟨rfl, _, rfl, t, _, _, _, rfl, rfl, SqT.of e, rfl, c _ (Same.refl _)⟩
  intro H2 S2 e2
  have e2' : ps.map (fun q => V.str ⟨#[q.1]⟩) = (ps.map fun q => (⟨#[q.1]⟩ : Str)).map V.str := by rw [List.map_map]; rfl
  rw [e2'] at e2
  refine ⟨_, D, _, rfl, rfl, .inl (SqL.of e2), ?_, ?_⟩
  · rw [sum_ones (fun y hy => by obtain ⟨q, _, rfl⟩ := List.mem_map.mp hy; rfl), List.length_map]
    show _ + _ * 0 ≤ _
    omega
  rw [join_signs]
  have lx : (tx ps).length = ps.length := tx_len ps
  generalize tx ps = x at lx
  have L2 := hL.same S2
  have D2 := hD.same S2
  have B2 : But [d] H H2 := But.of S2
  have xz : x.length ≤ sizeLine := by rw [sizeLine_eq]; omega
  clear hL hD hl hP e2 e2' S2 zs
  refine ⟨_, rfl, _, rfl, x, rfl, xz, _, _, rfl, rfl, d, (x.length : Int) + 1, rfl, by omega, D2, fun H3 at' a0 a1 D3 B3 => ?_⟩
  have L3 := L2.but B3 (nin1 nld) (dr_tups D2 B3)
  refine ⟨_, rfl, _, rfl, _, rfl, x, rfl, xz, _, rfl, _, _, rfl, rfl, _, _, rfl, rfl, d, (x.length : Int) - at' + 1, rfl, by omega, D3, fun H4 e e0 e1 D4 B4 => ⟨_, _, rfl, rfl, ?_⟩⟩
  have L4 := L3.but B4 (nin1 nld) (dr_tups D3 B4)
  refine ⟨_, rfl, _, rfl, _, rfl, _, rfl, _, rfl, x, rfl, xz, ?_⟩
  have pz := cutS_length x (some at') (some (at' + e))
  generalize cutS x (some at') (some (at' + e)) = part at pz
  refine ⟨_, rfl, d, 5, rfl, by decide, D4, fun H5 kd k0 k1 D5 B5 => ?_⟩
  have L5 := L4.but B5 (nin1 nld) (dr_tups D4 B5)
  have B05 := ((B2.trans B3).trans B4).trans B5
  have l26 : abc.cps.toList.length = 26 := by decide +kernel
  clear L2 L3 L4 D2 D3 D4 B2 B3 B4 B5
  refine ⟨_, rfl, rfl, _, rfl, ite2 (fun _ => ?_) (fun _ => ?_)⟩
  · exact ⟨_, rfl, d, rfl, D5, fun H6 c D6 B6 => k H6 _ (L5.but B6 (nin1 nld) (dr_tups D5 B6)) D6 (B05.trans B6)⟩
  refine ⟨_, rfl, rfl, _, rfl, ite2 (fun _ => ?_) (fun _ => ?_)⟩
  · refine ⟨_, rfl, _, rfl, d, 26, rfl, by decide, D5, fun H6 r r0 r1 D6 B6 => ?_⟩
    obtain ⟨c, hc, hat⟩ := atI_in (xs := abc.cps.toList) r0 (by rw [len_list]; exact r1)
    refine ⟨abc, r, c, rfl, rfl, by decide +kernel, hat, _, rfl, _, rfl, d, 26, rfl, by decide, D6, fun H7 r2 r20 r21 D7 B7 => ?_⟩
    obtain ⟨c2, hc2, hat2⟩ := atI_in (xs := abc.cps.toList) r20 (by rw [len_list]; exact r21)
    refine ⟨abc, r2, c2, rfl, rfl, by decide +kernel, hat2, _, _, rfl, rfl, by show 1 + 1 ≤ sizeLine; decide, ?_⟩
    exact k H7 _ ((L5.but B6 (nin1 nld) (dr_tups D5 B6)).but B7 (nin1 nld) (dr_tups D6 B7)) D7 ((B05.trans B6).trans B7)
  refine ⟨_, rfl, rfl, _, rfl, ite2 (fun _ => ?_) (fun _ => ?_)⟩
  · refine ⟨_, rfl, rfl, _, rfl, ite2 (fun hne => ?_) (fun _ => ?_)⟩
    · have p0 : 0 < part.length := by
        rcases Nat.eq_zero_or_pos part.length with z | z
        · exfalso
          have e0 : part = "" := by
            obtain ⟨a⟩ := part
            have : a = #[] := Array.eq_empty_of_size_eq_zero z
            rw [this]
            rfl
          rw [e0] at hne
          simp at hne
        · exact z
      refine ⟨_, rfl, _, rfl, part, rfl, by rw [sizeLine_eq]; omega, d, (part.length : Nat), rfl, by omega, D5, fun H6 r r0 r1 D6 B6 => ?_⟩
      have L6 := L5.but B6 (nin1 nld) (dr_tups D5 B6)
      refine ⟨_, rfl, _, rfl, _, rfl, part, rfl, by rw [sizeLine_eq]; omega, _, rfl, _, rfl, d, 26, rfl, by decide, D6, fun H7 r2 r20 r21 D7 B7 => ?_⟩
      obtain ⟨c2, hc2, hat2⟩ := atI_in (xs := abc.cps.toList) r20 (by rw [len_list]; exact r21)
      have c1 := cutS_length part none (some r)
      have c3 := cutS_length part (some (r + 1)) none
      refine ⟨abc, r2, c2, rfl, rfl, by decide +kernel, hat2, _, _, rfl, rfl, by show _ + 1 ≤ sizeLine; rw [sizeLine_eq]; omega, _, rfl, _, rfl, _, _, rfl, rfl, _, rfl, part, rfl, by rw [sizeLine_eq]; omega, _, _, rfl, rfl, by rw [Str.length_append]; show _ + 1 + _ ≤ sizeLine; rw [sizeLine_eq]; omega, ?_⟩
      exact k H7 _ (L6.but B7 (nin1 nld) (dr_tups D6 B7)) D7 ((B05.trans B6).trans B7)
    · exact ⟨_, rfl, k H5 part L5 D5 B05⟩
  · exact ⟨_, rfl, k H5 part L5 D5 B05⟩
end
end Rz

namespace Rz
open PySem PySem.Spec PyProof.Rows L2
def spLaw (K : PySem.W.Frag) : Sp := fun vs H Q _ => ∃ (a : Addr) (ns : List Int), vs = [.ref a] ∧ SqL K H a (ns.map V.int) ∧ ns.length ≤ 63 ∧ ∀ H', Q (.bl true) H'
theorem inT_empty (y : Str) : inT y "" = true := by
  unfold inT
  rw [StrLaws.found_iff]
  refine ⟨0, by show 0 + 0 ≤ _; omega, ?_⟩
  show (y.cps.extract 0 (0 + 0) == (#[] : Array Nat)) = true
  simp
theorem inR_nil (ps : List Pr) : inR ps [] = true := by
  unfold inR
  rw [List.any_eq_true]
  refine ⟨0, by simp, ?_⟩
  simp
theorem inR_self (ps : List Pr) : inR ps ps = true := by
  unfold inR
  rw [List.any_eq_true]
  refine ⟨0, ?_, ?_⟩
  · rw [List.mem_range]
    omega
  · simp
section
variable {K : PySem.W.Frag} {H : Hp} {Q : VK} {cR p l q m : Addr} {ps qs : List Pr}
theorem eq_go (h1 : RAt cR H p l ps) (h2 : RAt cR H q m qs) (g1 : GoodR ps) (g2 : GoodR qs) (k : Q (.bl (decide (ps = qs))) H) : rCmpO cR (sp_Row_eq cR) (.ref p) (.ref q) H Q := by
  obtain ⟨dx, e1, _⟩ := id h1
  obtain ⟨dy, e2, _⟩ := id h2
  exact ⟨p, dx, q, dy, _, _, rfl, rfl, e1, e2, p, l, q, m, ps, qs, rfl, h1, h2, g1, g2, ⟨_, rfl⟩, k⟩
theorem ne_go (h1 : RAt cR H p l ps) (h2 : RAt cR H q m qs) (g1 : GoodR ps) (g2 : GoodR qs) (k : Q (.bl (!decide (ps = qs))) H) : rNeO cR (sp_Row_eq cR) (.ref p) (.ref q) H Q := by
  obtain ⟨dx, e1, _⟩ := id h1
  obtain ⟨dy, e2, _⟩ := id h2
  exact ⟨p, dx, q, dy, _, _, rfl, rfl, e1, e2, p, l, q, m, ps, qs, rfl, h1, h2, g1, g2, _, rfl, k⟩
theorem lt_go (h1 : RAt cR H p l ps) (h2 : RAt cR H q m qs) (k : Q (.bl (ltP ps qs)) H) : rCmpO cR (sp_Row_lt cR) (.ref p) (.ref q) H Q := by
  obtain ⟨dx, e1, _⟩ := id h1
  obtain ⟨dy, e2, _⟩ := id h2
  exact ⟨p, dx, q, dy, _, _, rfl, rfl, e1, e2, p, l, q, m, ps, qs, rfl, h1, h2, ⟨_, rfl⟩, k⟩
/-- q in p -/
theorem in_go (h1 : RAt cR H p l ps) (h2 : RAt cR H q m qs) (g1 : GoodR ps) (g2 : GoodR qs) (z1 : ps.length ≤ 10000) (z2 : qs.length ≤ 10000) (k : ∀ H', Same H H' → Q (.bl (inR ps qs)) H') : rInO cR (sp_Row_contains cR) (.ref q) (.ref p) H Q := by
  obtain ⟨dx, e1, _⟩ := id h1
  exact ⟨p, dx, _, rfl, e1, p, l, q, m, ps, qs, rfl, h1, h2, g1, g2, z1, z2, fun H' S => ⟨_, rfl, k H' S⟩⟩
theorem inT_go {z : Str} (h1 : RAt cR H p l ps) (z1 : ps.length ≤ 10000) (k : ∀ H', Same H H' → Q (.bl (inT (tx ps) z)) H') : rInO cR (sp_Row_containsT cR) (.str z) (.ref p) H Q := by
  obtain ⟨dx, e1, _⟩ := id h1
  exact ⟨p, dx, _, rfl, e1, p, l, ps, z, rfl, h1, z1, fun H' S => ⟨_, rfl, k H' S⟩⟩
theorem eqN_go {y : V} {r : Bool} (h1 : RAt cR H p l ps) (hy : StL K H y) (k : Q (.bl r) H) : rEqN K cR (pr_Row_eqN K) r (.ref p) y H Q := by
  obtain ⟨dx, e1, _⟩ := id h1
  exact ⟨p, dx, _, rfl, e1, hy, ⟨p, y, rfl, hy⟩, k⟩
end
section
variable {w : World} {K : PySem.W.Frag} {mg : Str → Option Value} {base : Heap}
theorem sc_law : FnScope N_law P_law (defScope s_law) := ⟨rfl, rfl, rfl, by decide +kernel, rfl, by decide +kernel, by decide +kernel⟩
theorem ok_law (T : Txt K mg) : FnOk prg w K mg base (L2.CX prg w) 12 T.f_law T.fd_law P_law (spLaw K) := by
  refine Rz.Fun.okN T.F_law sc_law (fun vs H Q E h => ?_) (fun cdv A outer s H vs Q E hr h => ?_)
  · obtain ⟨a, ns, rfl, _⟩ := h
    rfl
  obtain ⟨a, ns, rfl, hS, hlen, k⟩ := h
  have nd := sc_law.nd
  have nic : NiC K T.c_Row := ⟨T.fx_Row_obj, T.fx_Row_lst, T.fx_Row_ne⟩
  obtain ⟨ds, vd1, bd1⟩ := bd_Row_init_1 T
  refine ⟨_, (pss_cons (ps_set (i := 1) nd rfl (Or.inl rfl) (pe_fn (ok_law_pool T) (hr.mono (by decide)) (by rfl) T.m__law_pool T.F__law_pool.kp T.b__law_pool .nil (fun _ => atN _) (pa_cons (pv 0) pa_nil)))
    (pss_cons (ps_set (i := 2) nd rfl (Or.inl rfl) (pe_fn (ok_law_row_of T) (hr.mono (by decide)) (by rfl) T.m__law_row_of T.F__law_row_of.kp T.b__law_row_of .nil (fun _ => atN _) (pa_cons (pv 1) (pa_cons pe_int pa_nil))))
    (pss_cons (ps_set (i := 3) nd rfl (Or.inl rfl) (pe_fn (ok_law_near T) (hr.mono (by decide)) (by rfl) T.m__law_near T.F__law_near.kp T.b__law_near .nil (fun _ => atN _) (pa_cons (pv 1) (pa_cons (pv 2) pa_nil))))
    (pss_cons (ps_set (i := 4) nd rfl (Or.inl rfl) (pe_fn (ok_law_string_of T) (hr.mono (by decide)) (by rfl) T.m__law_string_of T.F__law_string_of.kp T.b__law_string_of .nil (fun _ => atN _) (pa_cons (pv 1) (pa_cons (pv 2) pa_nil))))
    (pss_cons (ps_set (i := 5) nd rfl (Or.inl rfl) (pe_fn (ok_law_as_row T) (hr.mono (by decide)) (by rfl) T.m__law_as_row T.F__law_as_row.kp T.b__law_as_row .nil (fun _ => atN _) (pa_cons (pv 2) pa_nil)))
    (pss_cons (ps_set (i := 6) nd rfl (Or.inl rfl) (pe_fn (ok_law_as_row T) (hr.mono (by decide)) (by rfl) T.m__law_as_row T.F__law_as_row.kp T.b__law_as_row .nil (fun _ => atN _) (pa_cons (pv 3) pa_nil)))
    (pss_cons (ps_if (PW.pt (pw_or (pt_not (pt_val (pe_fn (ok_law_is T) (hr.mono (by decide)) (by rfl) T.m__law_is T.F__law_is.kp T.b__law_is .nil (fun _ => atN _) (pa_cons (pe_cmpR (op_eqO T.M_Row_eq (ok_Row_eq T) (hr.mono (by decide)) T.b_Row_eq hr.units0) (pv 5) (pv 6) (nomark _)) (pa_cons (pe_cmpR (op_eqP hr.units) (pv 2) (pv 3) (nomark _)) pa_nil))))) (pw_or1 (pt_not (pt_val (pe_fn (ok_law_is T) (hr.mono (by decide)) (by rfl) T.m__law_is T.F__law_is.kp T.b__law_is .nil (fun _ => atN _) (pa_cons (pe_cmpR (op_neO T.M_Row_eq (ok_Row_eq T) (hr.mono (by decide)) T.b_Row_eq nic) (pv 5) (pv 6) (nomark _)) (pa_cons (pe_cmpR (op_neP hr.units) (pv 2) (pv 3) (nomark _)) pa_nil)))))))) (pss_one (ps_ret pe_bl)) pss_nil)
    (pss_cons (ps_if (PW.pt (pw_or (pt_not (pt_val (pe_fn (ok_law_is T) (hr.mono (by decide)) (by rfl) T.m__law_is T.F__law_is.kp T.b__law_is .nil (fun _ => atN _) (pa_cons (pe_cmpR (op_ltO T.M_Row_lt (ok_Row_lt T) (hr.mono (by decide)) T.b_Row_lt hr.units0) (pv 5) (pv 6) (nomark _)) (pa_cons (pe_cmpR (op_ltP hr.units) (pv 2) (pv 3) (nomark _)) pa_nil))))) (pw_or1 (pt_not (pt_val (pe_fn (ok_law_is T) (hr.mono (by decide)) (by rfl) T.m__law_is T.F__law_is.kp T.b__law_is .nil (fun _ => atN _) (pa_cons (pe_cmpR (op_ltO T.M_Row_lt (ok_Row_lt T) (hr.mono (by decide)) T.b_Row_lt hr.units0) (pv 6) (pv 5) (nomark _)) (pa_cons (pe_cmpR (op_ltP hr.units) (pv 3) (pv 2) (nomark _)) pa_nil)))))))) (pss_one (ps_ret pe_bl)) pss_nil)
    (pss_cons (ps_if (PW.pt (pw_or (pt_not (pt_val (pe_fn (ok_law_is T) (hr.mono (by decide)) (by rfl) T.m__law_is T.F__law_is.kp T.b__law_is .nil (fun _ => atN _) (pa_cons (pe_cmpR (op_ltO T.M_Row_lt (ok_Row_lt T) (hr.mono (by decide)) T.b_Row_lt hr.units0) (pv 5) (pv 5) (nomark _)) (pa_cons pe_bl pa_nil))))) (pw_or1 (pt_not (pt_val (pe_fn (ok_law_is T) (hr.mono (by decide)) (by rfl) T.m__law_is T.F__law_is.kp T.b__law_is .nil (fun _ => atN _) (pa_cons (pe_cmpR (op_eqO T.M_Row_eq (ok_Row_eq T) (hr.mono (by decide)) T.b_Row_eq hr.units0) (pv 5) (pv 5) (nomark _)) (pa_cons pe_bl pa_nil)))))))) (pss_one (ps_ret pe_bl)) pss_nil)
    (pss_cons (ps_set (i := 7) nd rfl (Or.inl rfl) pe_bl)
    (pss_cons (ps_for PassesOwn.never rfl (pi_range1 rfl T.n_range (pa_cons (pe_op op_add (pe_op op_sub (pe_callB call_lenS (by rfl) T.n_len PySem.boot_len (pa_cons (pv 2) pa_nil)) (pe_callB call_lenS (by rfl) T.n_len PySem.boot_len (pa_cons (pv 3) pa_nil))) pe_int) pa_nil)) (pg_name (i := 8) nd rfl (Or.inl rfl))
      (pss_one (ps_if (pt_cmpR (op_eqP hr.units) (pe_slice sl_list (pv 2) (po_some (pv 8)) (po_some (pe_op op_add (pv 8) (pe_callB call_lenS (by rfl) T.n_len PySem.boot_len (pa_cons (pv 3) pa_nil))))) (pv 3) (nomark _)) (pss_one (ps_set (i := 7) nd rfl (Or.inl rfl) pe_bl)) pss_nil)))
    (pss_cons (ps_if (PW.pt (pw_or (pt_not (pt_val (pe_fn (ok_law_is T) (hr.mono (by decide)) (by rfl) T.m__law_is T.F__law_is.kp T.b__law_is .nil (fun _ => atN _) (pa_cons (pe_cmpR (op_inO T.M_Row_contains (ok_Row_contains T) (hr.mono (by decide)) T.b_Row_contains) (pv 6) (pv 5) rfl) (pa_cons (pv 7) pa_nil))))) (pw_or (pt_not (pt_val (pe_fn (ok_law_is T) (hr.mono (by decide)) (by rfl) T.m__law_is T.F__law_is.kp T.b__law_is .nil (fun _ => atN _) (pa_cons (pe_cmpR (op_inO T.M_Row_contains (ok_Row_contains T) (hr.mono (by decide)) T.b_Row_contains) (pe_mkR0 ⟨T.mk_Row, T.M_Row_init.at_, T.M_Row_init.fn, T.kp_Row⟩ (ok_Row_init T) (hr.mono (by decide)) (by rfl) T.m_Row bd1 vd1 (fun _ => atN _)) (pv 5) rfl) (pa_cons pe_bl pa_nil))))) (pw_or1 (pt_not (pt_val (pe_fn (ok_law_is T) (hr.mono (by decide)) (by rfl) T.m__law_is T.F__law_is.kp T.b__law_is .nil (fun _ => atN _) (pa_cons (pe_cmpR (op_inO T.M_Row_contains (ok_Row_contains T) (hr.mono (by decide)) T.b_Row_contains) (pv 5) (pv 5) rfl) (pa_cons pe_bl pa_nil))))))))) (pss_one (ps_ret pe_bl)) pss_nil)
    (pss_cons (ps_set (i := 10) nd rfl (Or.inl rfl) (pe_join pe_str (pe_lc (own := [("_law_pair", 9)]) (g := (gName 9)) (tt := tYes) rfl nd (pi_list (pv 2)) (blkOk_by (N := N_law) (sc := defScope s_law) (by decide +kernel)) (fun _ _ _ _ _ => (pg_name (i := 9) nd rfl (Or.inl rfl))) (fun _ _ _ _ _ => pts_nil) (fun _ _ _ _ _ => (pe_ix (show IxR _ (rIxT K) from ix_tup) (pv 9) pe_int (fun _ _ => rfl))))))
    (pss_cons (ps_if (PW.pt (pw_or (pt_not (pt_val (pe_fn (ok_law_is T) (hr.mono (by decide)) (by rfl) T.m__law_is T.F__law_is.kp T.b__law_is .nil (fun _ => atN _) (pa_cons (pe_cmpR (op_inO T.M_Row_contains (ok_Row_containsT T) (hr.mono (by decide)) T.b_Row_contains) (pv 4) (pv 5) rfl) (pa_cons (pe_cmpR op_in_str (pv 4) (pv 10) rfl) pa_nil))))) (pw_or1 (pt_not (pt_val (pe_fn (ok_law_is T) (hr.mono (by decide)) (by rfl) T.m__law_is T.F__law_is.kp T.b__law_is .nil (fun _ => atN _) (pa_cons (pe_cmpR (op_inO T.M_Row_contains (ok_Row_containsT T) (hr.mono (by decide)) T.b_Row_contains) pe_str (pv 5) rfl) (pa_cons pe_bl pa_nil)))))))) (pss_one (ps_ret pe_bl)) pss_nil)
    (pss_cons (ps_if (PW.pt (pw_or (pt_not (pt_val (pe_fn (ok_law_is T) (hr.mono (by decide)) (by rfl) T.m__law_is T.F__law_is.kp T.b__law_is .nil (fun _ => atN _) (pa_cons (pe_cmpR (op_eqN T.M_Row_eq (ok_Row_eqN T) (hr.mono (by decide)) T.b_Row_eq rfl nic) (pv 5) (pv 10) (nomark _)) (pa_cons pe_bl pa_nil))))) (pw_or1 (pt_not (pt_val (pe_fn (ok_law_is T) (hr.mono (by decide)) (by rfl) T.m__law_is T.F__law_is.kp T.b__law_is .nil (fun _ => atN _) (pa_cons (pe_cmpR (op_eqN T.M_Row_eq (ok_Row_eqN T) (hr.mono (by decide)) T.b_Row_eq rfl nic) (pv 5) (pv 2) (nomark _)) (pa_cons pe_bl pa_nil)))))))) (pss_one (ps_ret pe_bl)) pss_nil)
    (pss_cons (ps_if (PW.pt (pw_or (pt_not (pt_val (pe_fn (ok_law_is T) (hr.mono (by decide)) (by rfl) T.m__law_is T.F__law_is.kp T.b__law_is .nil (fun _ => atN _) (pa_cons (pe_cmpR (op_neN T.M_Row_eq (ok_Row_eqN T) (hr.mono (by decide)) T.b_Row_eq rfl nic) (pv 5) (pv 10) (nomark _)) (pa_cons pe_bl pa_nil))))) (pw_or1 (pt_not (pt_val (pe_fn (ok_law_is T) (hr.mono (by decide)) (by rfl) T.m__law_is T.F__law_is.kp T.b__law_is .nil (fun _ => atN _) (pa_cons (pe_cmpR (op_neN T.M_Row_eq (ok_Row_eqN T) (hr.mono (by decide)) T.b_Row_eq rfl nic) (pv 5) (pv 2) (nomark _)) (pa_cons pe_bl pa_nil)))))))) (pss_one (ps_ret pe_bl)) pss_nil)
    (pss_one (ps_ret (pe_and (pe_fn (ok_law_shows T) (hr.mono (by decide)) (by rfl) T.m__law_shows T.F__law_shows.kp T.b__law_shows .nil (fun _ => atN _) (pa_cons (pv 5) (pa_cons (pv 2) pa_nil))) (pe_one (pe_fn (ok_law_shows T) (hr.mono (by decide)) (by rfl) T.m__law_shows T.F__law_shows.kp T.b__law_shows .nil (fun _ => atN _) (pa_cons (pv 6) (pa_cons (pv 3) pa_nil))))))))))))))))))))))), ?_⟩
  refine ⟨_, rfl, a, ns, rfl, hS, hlen, fun H1 d S1 hd D1 => ?_⟩
  refine ⟨_, rfl, d, 7, rfl, by decide, by decide, D1, fun H2 l1 ps f1 g1 z1 L1 D2 B2 => ?_⟩
  have zp : ps.length ≤ 84 := by omega
  have nl1 : l1 ≠ d := Ne.symm (apartNew D1.some f1)
  refine ⟨_, rfl, _, rfl, d, l1, ps, rfl, nl1, D2, L1, g1, zp, fun H3 l2 qs f2 g2 z2 L2 L1a D3 B3 => ?_⟩
  have nl2 : l2 ≠ d := Ne.symm (apartNew D2.some f2)
  refine ⟨_, rfl, _, rfl, d, l1, ps, rfl, nl1, D3, L1a, zp, fun H4 z L1b D4 B4 => ?_⟩
  have L2b := L2.but B4 (nin1 nl2) (dr_tups D3 B4)
  refine ⟨_, rfl, l1, ps, rfl, L1b, g1, by omega, fun H5 p1 m1 S5 fp1 fm1 R1a => ?_⟩
  refine ⟨_, rfl, l2, qs, rfl, L2b.same S5, g2, by omega, fun H6 p2 m2 S6 fp2 fm2 R2 => ?_⟩
  have R1 := R1a.same S6
  have L1' := (L1b.same S5).same S6
  have L2' := (L2b.same S5).same S6
  clear L1 L1a L1b L2 L2b R1a D1 D2 D3 D4 B2 B3 B4 S1 S5 S6 hS
  refine ⟨_, rfl, _, rfl, eq_go R1 R2 g1 g2 ⟨_, rfl, _, rfl, reqP L1' L2' g1 g2 ⟨_, rfl, true, rfl, iteF ?_⟩⟩⟩
  refine ⟨_, rfl, _, rfl, ne_go R1 R2 g1 g2 ⟨_, rfl, _, rfl, rneP L1' L2' g1 g2 ⟨_, rfl, true, rfl, iteF ?_⟩⟩⟩
  refine ⟨_, rfl, _, rfl, lt_go R1 R2 ⟨_, rfl, _, rfl, rltP L1' L2' ⟨_, rfl, true, rfl, iteF ?_⟩⟩⟩
  refine ⟨_, rfl, _, rfl, lt_go R2 R1 ⟨_, rfl, _, rfl, rltP L2' L1' ⟨_, rfl, true, rfl, iteF ?_⟩⟩⟩
  refine ⟨_, rfl, _, rfl, lt_go R1 R1 ⟨false, by rw [ltP_self]; rfl, true, rfl, iteF ?_⟩⟩
  refine ⟨_, rfl, _, rfl, eq_go R1 R1 g1 g1 ⟨true, by rw [decide_eq_true rfl]; rfl, true, rfl, iteF ?_⟩⟩
  refine ⟨_, rfl, len_go L1' ⟨_, rfl, len_go L2' ⟨_, _, rfl, rfl, _, _, rfl, rfl, _, rfl, by omega, by omega, for_range (n := ((ps.length : Int) - (qs.length : Int) + 1).toNat) (fun i σ H7 => ∃ v8 : Option V, σ = [some (.ref a), some (.ref d), some (.ref l1), some (.ref l2), some (.str z), some (.ref p1), some (.ref p2), some (.bl ((List.range i).any fun j => decide ((ps.drop j).take qs.length = qs))), v8, none, none] ∧ Same H6 H7) ⟨none, rfl, Same.refl _⟩ ?_ ?_⟩⟩⟩
  · rintro i σ H7 hi ⟨v8, rfl, S7⟩
    have hi2 : i + qs.length ≤ ps.length := by omega
    have L1c := L1'.same S7
    have L2c := L2'.same S7
    refine ⟨_, rfl, _, rfl, _, rfl, _, rfl, _, rfl, len_go L2c ⟨_, _, rfl, rfl, _, rfl, ?_⟩⟩
    rw [show (0 : Int) + (i : Int) = (i : Int) from Int.zero_add _, show ((i : Int) + (qs.length : Nat)) = ((i + qs.length : Nat) : Int) from rfl]
    refine mid_go L1c (by omega) hi2 (fun p3 H8 e8 S8 L3 => ?_)
    rw [Nat.add_sub_cancel_left] at L3
    refine ⟨_, rfl, reqP L3 (L2c.same S8) (good_take (good_drop g1 _) _) g2 ⟨_, rfl, ?_⟩⟩
    have ex : ((List.range (i + 1)).any fun j => decide ((ps.drop j).take qs.length = qs)) = (((List.range i).any fun j => decide ((ps.drop j).take qs.length = qs)) || decide ((ps.drop i).take qs.length = qs)) := by
      rw [List.range_succ, List.any_append]
      simp
    refine ite2 (fun h => ?_) (fun h => ?_)
    · refine ⟨some (.int i), ?_, S7.trans S8⟩
      rw [ex, h, Bool.or_true]
      rfl
    · refine ⟨some (.int i), ?_, S7.trans S8⟩
      rw [ex, Bool.eq_false_iff.mpr h, Bool.or_false]
      rfl
  rintro σ H7 ⟨v8, rfl, S7⟩
  have hin : ((List.range ((ps.length : Int) - (qs.length : Int) + 1).toNat).any fun j => decide ((ps.drop j).take qs.length = qs)) = inR ps qs := by
    rw [show ((ps.length : Int) - (qs.length : Int) + 1).toNat = ps.length + 1 - qs.length by omega]
    rfl
  rw [hin]
  have R1b := R1.same S7
  have R2b := R2.same S7
  refine ⟨_, rfl, _, rfl, in_go R1b R2b g1 g2 (by omega) (by omega) fun H8 S8 => ⟨_, rfl, _, rfl, true, rfl, iteF ?_⟩⟩
  refine row_new rfl (by decide) (.inl ⟨rfl, rfl⟩) rr_empty fun H9 p3 m3 S9 fp3 fm3 R3 => ?_
  have S79 := S8.trans S9
  have R3 : RAt T.c_Row H9 p3 m3 [] := R3
  refine ⟨_, rfl, in_go (R1b.same S79) R3 g1 (fun x hx => by cases hx) (by omega) (by show 0 ≤ _; omega) fun H10 S10 => ⟨true, by rw [inR_nil]; rfl, true, rfl, iteF ?_⟩⟩
  have S710 := S79.trans S10
  refine ⟨_, rfl, _, rfl, in_go (R1b.same S710) (R1b.same S710) g1 g1 (by omega) (by omega) fun H11 S11 => ⟨true, by rw [inR_self]; rfl, true, rfl, iteF ?_⟩⟩
  have S711 := S710.trans S11
  have L1d := (L1'.same S7).same S711
  have L2d := (L2'.same S7).same S711
  have R1d := R1b.same S711
  have R2d := R2b.same S711
  clear R1b R2b R1 R2 L1' L2' R3 S7 S8 S9 S10 S11 S79 S710 S711 hin
  obtain ⟨ts, hl, hP⟩ := id L1d
  have zs : ps.length ≤ sizeLine := by rw [sizeLine_eq]; omega
  refine ⟨⟨_, rfl⟩, _, rfl, l1, rfl, ⟨_, SqL.of hl⟩, fun D hD' => lc_pairs (K := K) (l := l1) (ps := ps) (fun q => .str ⟨#[q.1]⟩) L1d zs hD' ?_ ?_⟩
  · intro t q H2 Q2 _ S e c
    exact ⟨rfl, _, rfl, t, _, _, _, rfl, rfl, SqT.of e, rfl, c _ (Same.refl _)⟩
  intro H12 S12 e12
  have e12' : ps.map (fun q => V.str ⟨#[q.1]⟩) = (ps.map fun q => (⟨#[q.1]⟩ : Str)).map V.str := by rw [List.map_map]; rfl
  rw [e12'] at e12
  refine ⟨_, D, _, rfl, rfl, .inl (SqL.of e12), ?_, ?_⟩
  · rw [sum_ones (fun y hy => by obtain ⟨q, _, rfl⟩ := List.mem_map.mp hy; rfl), List.length_map]
    show _ + _ * 0 ≤ _
    omega
  rw [join_signs]
  have R1e := R1d.same S12
  have R2e := R2d.same S12
  have L1e := L1d.same S12
  have L2e := L2d.same S12
  refine ⟨_, rfl, _, rfl, inT_go R1e (by omega) fun H13 S13 => ⟨_, rfl, _, rfl, _, _, rfl, rfl, inT (tx ps) z, rfl, true, rfl, iteF ?_⟩⟩
  refine ⟨_, rfl, inT_go (R1e.same S13) (by omega) fun H14 S14 => ⟨true, by rw [inT_empty]; rfl, true, rfl, iteF ?_⟩⟩
  have S1214 := S13.trans S14
  have R1f := R1e.same S1214
  have R2f := R2e.same S1214
  have L1f := L1e.same S1214
  have L2f := L2e.same S1214
  have st1 : StL K H14 (.str (tx ps)) := .inl ⟨_, rfl⟩
  have st2 : StL K H14 (.ref l1) := by
    obtain ⟨ts, hl, hP⟩ := id L1f
    exact .inr ⟨_, _, rfl, hl⟩
  refine ⟨_, rfl, _, rfl, eqN_go R1f st1 ⟨false, rfl, true, rfl, iteF ?_⟩⟩
  refine ⟨_, rfl, _, rfl, eqN_go R1f st2 ⟨false, rfl, true, rfl, iteF ?_⟩⟩
  refine ⟨_, rfl, _, rfl, eqN_go R1f st1 ⟨true, rfl, true, rfl, iteF ?_⟩⟩
  refine ⟨_, rfl, _, rfl, eqN_go R1f st2 ⟨true, rfl, true, rfl, iteF ?_⟩⟩
  exact ⟨_, rfl, _, rfl, p1, m1, l1, ps, rfl, R1f, L1f, g1, by omega, fun H15 S15 => ⟨true, rfl, iteT ⟨_, rfl, _, rfl, p2, m2, l2, qs, rfl, R2f.same S15, L2f.same S15, g2, by omega, fun H16 _ => k H16⟩⟩⟩
end
end Rz

namespace Rz
open PySem L2
theorem all_mk {w : World} {K : PySem.W.Frag} {h : Heap} {mg : Str → Option Value} {fa : Addr} (X : K.In h) (G : h.Ns mainGlobals mg) (hfa : mg "law" = some (.ref fa))
    {tk_SIGNS : Tok}
    {tk_GREATEST_HEIGHT : Tok}
    {c_BadSign : Addr}
    {nm_BadSign q_BadSign : Str} {N_BadSign : Addr} {bs_BadSign bm_BadSign : List Value} {sn_BadSign : List Str} {sub_BadSign : List Value} {ab_BadSign : Bool} {col_BadSign : Option Bool} {dd_BadSign : Option Addr} {k0_BadSign k1_BadSign k2_BadSign k3_BadSign k5_BadSign : Option Value}
    {f_BadSign_init cc_BadSign_init cda_BadSign_init : Addr} {oc_BadSign_init kV_BadSign_init dc_BadSign_init pm_BadSign_init ct_BadSign_init ccl_BadSign_init cl_BadSign_init : Value} {od_BadSign_init an_BadSign_init cdd_BadSign_init cld_BadSign_init : Option Addr} {sl_BadSign_init cs_BadSign_init ls_BadSign_init : Array (Option Value)} {vs_BadSign_init : Array Value} {fl_BadSign_init : Str} {tf_BadSign_init : Tok}
    {c_BadHeight : Addr}
    {nm_BadHeight q_BadHeight : Str} {N_BadHeight : Addr} {bs_BadHeight bm_BadHeight : List Value} {sn_BadHeight : List Str} {sub_BadHeight : List Value} {ab_BadHeight : Bool} {col_BadHeight : Option Bool} {dd_BadHeight : Option Addr} {k0_BadHeight k1_BadHeight k2_BadHeight k3_BadHeight k5_BadHeight : Option Value}
    {f_BadHeight_init cc_BadHeight_init cda_BadHeight_init : Addr} {oc_BadHeight_init kV_BadHeight_init dc_BadHeight_init pm_BadHeight_init ct_BadHeight_init ccl_BadHeight_init cl_BadHeight_init : Value} {od_BadHeight_init an_BadHeight_init cdd_BadHeight_init cld_BadHeight_init : Option Addr} {sl_BadHeight_init cs_BadHeight_init ls_BadHeight_init : Array (Option Value)} {vs_BadHeight_init : Array Value} {fl_BadHeight_init : Str} {tf_BadHeight_init : Tok}
    {c_Uneven : Addr}
    {c_Row : Addr}
    {f_check_text : Addr} {oc_check_text kV_check_text dc_check_text pm_check_text cd_check_text ct_check_text : Value} {od_check_text an_check_text : Option Addr} {sl_check_text : Array (Option Value)}
    {f_decoded : Addr} {oc_decoded kV_decoded dc_decoded pm_decoded cd_decoded ct_decoded : Value} {od_decoded an_decoded : Option Addr} {sl_decoded : Array (Option Value)}
    {f_check_height : Addr} {oc_check_height kV_check_height dc_check_height pm_check_height cd_check_height ct_check_height : Value} {od_check_height an_check_height : Option Addr} {sl_check_height : Array (Option Value)}
    {f_Row_init : Addr} {oc_Row_init kV_Row_init dc_Row_init pm_Row_init cd_Row_init ct_Row_init : Value} {od_Row_init an_Row_init : Option Addr} {sl_Row_init : Array (Option Value)}
    {dT_Row_init : Addr}
    {tk0_Row_init : Tok}
    {uc_Row_init : Value} {ud_Row_init : Option Addr} {un_Row_init : Nat} {us_Row_init : Array (Option Value)}
    {f_Row_signs : Addr} {oc_Row_signs kV_Row_signs dc_Row_signs pm_Row_signs cd_Row_signs ct_Row_signs : Value} {od_Row_signs an_Row_signs : Option Addr} {sl_Row_signs : Array (Option Value)}
    {p_Row_signs : Addr} {rs_Row_signs : List Value}
    {f_Row_heights : Addr} {oc_Row_heights kV_Row_heights dc_Row_heights pm_Row_heights cd_Row_heights ct_Row_heights : Value} {od_Row_heights an_Row_heights : Option Addr} {sl_Row_heights : Array (Option Value)}
    {p_Row_heights : Addr} {rs_Row_heights : List Value}
    {f_Row_len : Addr} {oc_Row_len kV_Row_len dc_Row_len pm_Row_len cd_Row_len ct_Row_len : Value} {od_Row_len an_Row_len : Option Addr} {sl_Row_len : Array (Option Value)}
    {f_Row_iter : Addr} {oc_Row_iter kV_Row_iter dc_Row_iter pm_Row_iter cd_Row_iter ct_Row_iter : Value} {od_Row_iter an_Row_iter : Option Addr} {sl_Row_iter : Array (Option Value)}
    {f_Row_abs : Addr} {oc_Row_abs kV_Row_abs dc_Row_abs pm_Row_abs cd_Row_abs ct_Row_abs : Value} {od_Row_abs an_Row_abs : Option Addr} {sl_Row_abs : Array (Option Value)}
    {f__law_pool : Addr} {oc__law_pool kV__law_pool dc__law_pool pm__law_pool cd__law_pool ct__law_pool : Value} {od__law_pool an__law_pool : Option Addr} {sl__law_pool : Array (Option Value)}
    {f__law_pick : Addr} {oc__law_pick kV__law_pick dc__law_pick pm__law_pick cd__law_pick ct__law_pick : Value} {od__law_pick an__law_pick : Option Addr} {sl__law_pick : Array (Option Value)}
    {f__law_is_int : Addr} {oc__law_is_int kV__law_is_int dc__law_is_int pm__law_is_int cd__law_is_int ct__law_is_int : Value} {od__law_is_int an__law_is_int : Option Addr} {sl__law_is_int : Array (Option Value)}
    {f__law_shows : Addr} {oc__law_shows kV__law_shows dc__law_shows pm__law_shows cd__law_shows ct__law_shows : Value} {od__law_shows an__law_shows : Option Addr} {sl__law_shows : Array (Option Value)}
    {f__law_row_of : Addr} {oc__law_row_of kV__law_row_of dc__law_row_of pm__law_row_of cd__law_row_of ct__law_row_of : Value} {od__law_row_of an__law_row_of : Option Addr} {sl__law_row_of : Array (Option Value)}
    {f__law_as_row : Addr} {oc__law_as_row kV__law_as_row dc__law_as_row pm__law_as_row cd__law_as_row ct__law_as_row : Value} {od__law_as_row an__law_as_row : Option Addr} {sl__law_as_row : Array (Option Value)}
    {f__law_odd_sign : Addr} {oc__law_odd_sign kV__law_odd_sign dc__law_odd_sign pm__law_odd_sign cd__law_odd_sign ct__law_odd_sign : Value} {od__law_odd_sign an__law_odd_sign : Option Addr} {sl__law_odd_sign : Array (Option Value)}
    {f__law_is : Addr} {oc__law_is kV__law_is dc__law_is pm__law_is cd__law_is ct__law_is : Value} {od__law_is an__law_is : Option Addr} {sl__law_is : Array (Option Value)}
    {f_Row_eq : Addr} {oc_Row_eq kV_Row_eq dc_Row_eq pm_Row_eq cd_Row_eq ct_Row_eq : Value} {od_Row_eq an_Row_eq : Option Addr} {sl_Row_eq : Array (Option Value)}
    {f_Row_lt : Addr} {oc_Row_lt kV_Row_lt dc_Row_lt pm_Row_lt cd_Row_lt ct_Row_lt : Value} {od_Row_lt an_Row_lt : Option Addr} {sl_Row_lt : Array (Option Value)}
    {f_Row_contains : Addr} {oc_Row_contains kV_Row_contains dc_Row_contains pm_Row_contains cd_Row_contains ct_Row_contains : Value} {od_Row_contains an_Row_contains : Option Addr} {sl_Row_contains : Array (Option Value)}
    {f__law_near : Addr} {oc__law_near kV__law_near dc__law_near pm__law_near cd__law_near ct__law_near : Value} {od__law_near an__law_near : Option Addr} {sl__law_near : Array (Option Value)}
    {f__law_string_of : Addr} {oc__law_string_of kV__law_string_of dc__law_string_of pm__law_string_of cd__law_string_of ct__law_string_of : Value} {od__law_string_of an__law_string_of : Option Addr} {sl__law_string_of : Array (Option Value)}
    {f_law : Addr} {oc_law kV_law dc_law pm_law cd_law ct_law : Value} {od_law an_law : Option Addr} {sl_law : Array (Option Value)}
    (z_NotImplemented : PySem.W.nsIn K mainGlobals "NotImplemented" = some none)
    (z_abs : PySem.W.nsIn K mainGlobals "abs" = some none)
    (z_any : PySem.W.nsIn K mainGlobals "any" = some none)
    (z_bool : PySem.W.nsIn K mainGlobals "bool" = some none)
    (z_bytes : PySem.W.nsIn K mainGlobals "bytes" = some none)
    (z_enumerate : PySem.W.nsIn K mainGlobals "enumerate" = some none)
    (z_int : PySem.W.nsIn K mainGlobals "int" = some none)
    (z_isinstance : PySem.W.nsIn K mainGlobals "isinstance" = some none)
    (z_iter : PySem.W.nsIn K mainGlobals "iter" = some none)
    (z_len : PySem.W.nsIn K mainGlobals "len" = some none)
    (z_list : PySem.W.nsIn K mainGlobals "list" = some none)
    (z_max : PySem.W.nsIn K mainGlobals "max" = some none)
    (z_property : PySem.W.nsIn K mainGlobals "property" = some none)
    (z_range : PySem.W.nsIn K mainGlobals "range" = some none)
    (z_str : PySem.W.nsIn K mainGlobals "str" = some none)
    (z_tuple : PySem.W.nsIn K mainGlobals "tuple" = some none)
    (z_zip : PySem.W.nsIn K mainGlobals "zip" = some none)
    (a_SIGNS : PySem.W.nsIn K mainGlobals "SIGNS" = some (some (.str "abcdefghijklmnopqrstuvwxyz" tk_SIGNS)))
    (a_GREATEST_HEIGHT : PySem.W.nsIn K mainGlobals "GREATEST_HEIGHT" = some (some (.int 9 tk_GREATEST_HEIGHT)))
    (a_BadSign : PySem.W.nsIn K mainGlobals "BadSign" = some (some (.ref c_BadSign)))
    (l_BadSign : K.lookup c_BadSign = some (excClassObj nm_BadSign q_BadSign c_BadSign N_BadSign bs_BadSign bm_BadSign true sn_BadSign sub_BadSign ab_BadSign col_BadSign dd_BadSign k0_BadSign k1_BadSign k2_BadSign k3_BadSign k5_BadSign "ValueError.__new__"))
    (ve_BadSign : PySem.HandSPX.refsVE bm_BadSign = true)
    (sa_BadSign : PySem.W.findIn K (.ref c_BadSign) "__setattr__" = some (some (.builtin "object.__setattr__")))
    (eb_BadSign : PySem.W.subIn K (.ref c_BadSign) (.type "BaseException") = some true)
    (ev_BadSign : PySem.W.subIn K (.ref c_BadSign) (.type "ValueError") = some true)
    (ty_BadSign : PySem.W.typeIn K (.ref c_BadSign) = some (.type "type"))
    (kc_BadSign : PySem.W.keepIn K (.ref c_BadSign) = true)
    (ga_BadSign : PySem.W.findIn K (.ref c_BadSign) "__getattribute__" = some (some (.builtin "BaseException.__getattribute__")))
    (gg_BadSign : PySem.W.findIn K (.ref c_BadSign) "__getattr__" = some none)
    (nf_BadSign : PySem.W.findIn K (.ref c_BadSign) "at" = some none)
    (hd_BadSign : PySem.W.hasDictIn K c_BadSign = true)
    (mc_BadSign : PySem.W.mroIn K c_BadSign (.ref c_BadSign) = some true)
    (si_BadSign : PySem.W.ks_superIn K c_BadSign c_BadSign "__init__" = some (some (.builtin "ValueError.__init__")))
    (i_BadSign_init : PySem.W.findIn K (.ref c_BadSign) "__init__" = some (some (.ref f_BadSign_init)))
    (t_BadSign_init : PySem.W.typeIn K (.ref f_BadSign_init) = some (.type "function"))
    (l_BadSign_init : K.lookup f_BadSign_init = some ⟨oc_BadSign_init, od_BadSign_init, .func (PySem.W.ksFn "__init__" "BadSign.__init__" (defArgs s_BadSign_init) (defBody s_BadSign_init) (defScope s_BadSign_init) .none kV_BadSign_init dc_BadSign_init pm_BadSign_init an_BadSign_init (.ref cda_BadSign_init) ct_BadSign_init cc_BadSign_init), sl_BadSign_init⟩)
    (d_BadSign_init : PySem.W.codeIn K (.ref cda_BadSign_init) "BadSign.__init__" = true)
    (e_BadSign_init : K.lookup cda_BadSign_init = some ⟨ccl_BadSign_init, cdd_BadSign_init, .fields vs_BadSign_init, cs_BadSign_init⟩)
    (v_BadSign_init : vs_BadSign_init[2]? = some (.str fl_BadSign_init tf_BadSign_init))
    (g_BadSign_init : ((prg.main.file : Str) == fl_BadSign_init) = true)
    (h_BadSign_init : K.lookup cc_BadSign_init = some ⟨cl_BadSign_init, cld_BadSign_init, .cell (some (.ref c_BadSign)), ls_BadSign_init⟩)
    (em_BadSign_BadSign : PySem.W.exmOne K (.ref c_BadSign) (.ref c_BadSign) = some true)
    (a_BadHeight : PySem.W.nsIn K mainGlobals "BadHeight" = some (some (.ref c_BadHeight)))
    (l_BadHeight : K.lookup c_BadHeight = some (excClassObj nm_BadHeight q_BadHeight c_BadHeight N_BadHeight bs_BadHeight bm_BadHeight true sn_BadHeight sub_BadHeight ab_BadHeight col_BadHeight dd_BadHeight k0_BadHeight k1_BadHeight k2_BadHeight k3_BadHeight k5_BadHeight "ValueError.__new__"))
    (ve_BadHeight : PySem.HandSPX.refsVE bm_BadHeight = true)
    (sa_BadHeight : PySem.W.findIn K (.ref c_BadHeight) "__setattr__" = some (some (.builtin "object.__setattr__")))
    (eb_BadHeight : PySem.W.subIn K (.ref c_BadHeight) (.type "BaseException") = some true)
    (ev_BadHeight : PySem.W.subIn K (.ref c_BadHeight) (.type "ValueError") = some true)
    (ty_BadHeight : PySem.W.typeIn K (.ref c_BadHeight) = some (.type "type"))
    (kc_BadHeight : PySem.W.keepIn K (.ref c_BadHeight) = true)
    (ga_BadHeight : PySem.W.findIn K (.ref c_BadHeight) "__getattribute__" = some (some (.builtin "BaseException.__getattribute__")))
    (gg_BadHeight : PySem.W.findIn K (.ref c_BadHeight) "__getattr__" = some none)
    (nf_BadHeight : PySem.W.findIn K (.ref c_BadHeight) "height" = some none)
    (hd_BadHeight : PySem.W.hasDictIn K c_BadHeight = true)
    (mc_BadHeight : PySem.W.mroIn K c_BadHeight (.ref c_BadHeight) = some true)
    (si_BadHeight : PySem.W.ks_superIn K c_BadHeight c_BadHeight "__init__" = some (some (.builtin "ValueError.__init__")))
    (i_BadHeight_init : PySem.W.findIn K (.ref c_BadHeight) "__init__" = some (some (.ref f_BadHeight_init)))
    (t_BadHeight_init : PySem.W.typeIn K (.ref f_BadHeight_init) = some (.type "function"))
    (l_BadHeight_init : K.lookup f_BadHeight_init = some ⟨oc_BadHeight_init, od_BadHeight_init, .func (PySem.W.ksFn "__init__" "BadHeight.__init__" (defArgs s_BadHeight_init) (defBody s_BadHeight_init) (defScope s_BadHeight_init) .none kV_BadHeight_init dc_BadHeight_init pm_BadHeight_init an_BadHeight_init (.ref cda_BadHeight_init) ct_BadHeight_init cc_BadHeight_init), sl_BadHeight_init⟩)
    (d_BadHeight_init : PySem.W.codeIn K (.ref cda_BadHeight_init) "BadHeight.__init__" = true)
    (e_BadHeight_init : K.lookup cda_BadHeight_init = some ⟨ccl_BadHeight_init, cdd_BadHeight_init, .fields vs_BadHeight_init, cs_BadHeight_init⟩)
    (v_BadHeight_init : vs_BadHeight_init[2]? = some (.str fl_BadHeight_init tf_BadHeight_init))
    (g_BadHeight_init : ((prg.main.file : Str) == fl_BadHeight_init) = true)
    (h_BadHeight_init : K.lookup cc_BadHeight_init = some ⟨cl_BadHeight_init, cld_BadHeight_init, .cell (some (.ref c_BadHeight)), ls_BadHeight_init⟩)
    (em_BadHeight_BadSign : PySem.W.exmOne K (.ref c_BadHeight) (.ref c_BadSign) = some false)
    (em_BadHeight_BadHeight : PySem.W.exmOne K (.ref c_BadHeight) (.ref c_BadHeight) = some true)
    (a_Uneven : PySem.W.nsIn K mainGlobals "Uneven" = some (some (.ref c_Uneven)))
    (o_Uneven : PySem.W.excIn K c_Uneven [.type "ValueError", .type "Exception", .type "BaseException", .type "object"] "ValueError.__new__" = true)
    (kp_Uneven : PySem.W.keepIn K (.ref c_Uneven) = true)
    (r_Uneven : PySem.W.subIn K (.ref c_Uneven) (.type "BaseException") = some true)
    (t_Uneven : PySem.W.typeIn K (.ref c_Uneven) = some (.type "type"))
    (em_Uneven_BadSign : PySem.W.exmOne K (.ref c_Uneven) (.ref c_BadSign) = some false)
    (em_Uneven_BadHeight : PySem.W.exmOne K (.ref c_Uneven) (.ref c_BadHeight) = some false)
    (em_Uneven_Uneven : PySem.W.exmOne K (.ref c_Uneven) (.ref c_Uneven) = some true)
    (em_BadSign_BadHeight : PySem.W.exmOne K (.ref c_BadSign) (.ref c_BadHeight) = some false)
    (em_BadSign_Uneven : PySem.W.exmOne K (.ref c_BadSign) (.ref c_Uneven) = some false)
    (em_BadHeight_Uneven : PySem.W.exmOne K (.ref c_BadHeight) (.ref c_Uneven) = some false)
    (z_super : PySem.W.nsIn K mainGlobals "super" = some none)
    (ops : PySem.W.nsIn K cStatics "thirdparty.any" = some none)
    (a_Row : PySem.W.nsIn K mainGlobals "Row" = some (some (.ref c_Row)))
    (pg_Row : PySem.W.plainGet K c_Row Str.empty = true)
    (hd_Row : PySem.W.hasDictIn K c_Row = true)
    (po_Row : PySem.W.plainOver K c_Row = true)
    (sa_Row : PySem.W.findIn K (.ref c_Row) "__setattr__" = some (some (.builtin "object.__setattr__")))
    (mk_Row : PySem.W.makesIn K c_Row = true)
    (kc_Row : PySem.W.keepIn K (.ref c_Row) = true)
    (j0_Row : PySem.W.findIn K (.ref c_Row) "__class__" = some (some (.builtin "object.__class__")))
    (j1_Row : PySem.W.specialIn K (.builtin "object.__class__") "__get__" = some (some (.builtin "getset_descriptor.__get__")))
    (j2_Row : PySem.W.takesIn K (.builtin "object.__class__") = some true)
    (j3_Row : PySem.W.mroIn K c_Row (.type "object") = some true)
    (j4_Row : PySem.W.kitOne K (.ref c_Row) (.ref c_Row) = some true)
    (sf_Row : PySem.W.selfFirst K c_Row = true)
    (fx_Row_obj : PySem.W.mroIn K c_Row (.type "object") = some true)
    (fx_Row_lst : PySem.W.mroIn K c_Row (.type "list") = some false)
    (fx_Row_ne : PySem.W.findIn K (.ref c_Row) "__ne__" = some (some (.builtin "object.__ne__")))
    (fx_Row_kstr : PySem.W.kitOne K (.type "str") (.ref c_Row) = some false)
    (fx_Row_klst : PySem.W.kitOne K (.type "list") (.ref c_Row) = some false)
    (nsq_Row : PySem.W.noSeq K c_Row = true)
    (na_Row__pairs : PySem.W.findIn K (.ref c_Row) "_pairs" = some none)
    (a_check_text : PySem.W.nsIn K mainGlobals "check_text" = some (some (.ref f_check_text)))
    (l_check_text : K.lookup f_check_text = some ⟨oc_check_text, od_check_text, .func (PySem.W.fnOf "check_text" "check_text" (defArgs s_check_text) (defBody s_check_text) (defScope s_check_text) .none kV_check_text dc_check_text pm_check_text an_check_text cd_check_text ct_check_text), sl_check_text⟩)
    (d_check_text : PySem.W.codeIn K cd_check_text "check_text" = true)
    (k_check_text : PySem.W.keepIn K (.ref f_check_text) = true)
    (a_decoded : PySem.W.nsIn K mainGlobals "decoded" = some (some (.ref f_decoded)))
    (l_decoded : K.lookup f_decoded = some ⟨oc_decoded, od_decoded, .func (PySem.W.fnOf "decoded" "decoded" (defArgs s_decoded) (defBody s_decoded) (defScope s_decoded) .none kV_decoded dc_decoded pm_decoded an_decoded cd_decoded ct_decoded), sl_decoded⟩)
    (d_decoded : PySem.W.codeIn K cd_decoded "decoded" = true)
    (k_decoded : PySem.W.keepIn K (.ref f_decoded) = true)
    (a_check_height : PySem.W.nsIn K mainGlobals "check_height" = some (some (.ref f_check_height)))
    (l_check_height : K.lookup f_check_height = some ⟨oc_check_height, od_check_height, .func (PySem.W.fnOf "check_height" "check_height" (defArgs s_check_height) (defBody s_check_height) (defScope s_check_height) .none kV_check_height dc_check_height pm_check_height an_check_height cd_check_height ct_check_height), sl_check_height⟩)
    (d_check_height : PySem.W.codeIn K cd_check_height "check_height" = true)
    (k_check_height : PySem.W.keepIn K (.ref f_check_height) = true)
    (a_Row_init : PySem.W.findIn K (.ref c_Row) "__init__" = some (some (.ref f_Row_init)))
    (i_Row_init : PySem.W.isFn K (.ref f_Row_init) = true)
    (l_Row_init : K.lookup f_Row_init = some ⟨oc_Row_init, od_Row_init, .func (PySem.W.fnOf "__init__" "Row.__init__" (defArgs s_Row_init) (defBody s_Row_init) (defScope s_Row_init) (.ref dT_Row_init) kV_Row_init dc_Row_init pm_Row_init an_Row_init cd_Row_init ct_Row_init), sl_Row_init⟩)
    (d_Row_init : PySem.W.codeIn K cd_Row_init "Row.__init__" = true)
    (k_Row_init : PySem.W.keepIn K (.ref f_Row_init) = true)
    (u_Row_init : K.lookup dT_Row_init = some ⟨uc_Row_init, ud_Row_init, .seq ([.str "" tk0_Row_init, .none] : List Value).toArray un_Row_init, us_Row_init⟩)
    (a_Row_signs : PySem.W.findIn K (.ref c_Row) "signs" = some (some (.ref p_Row_signs)))
    (pg_Row_signs : PySem.W.specialIn K (.ref p_Row_signs) "__get__" = some (some (.builtin "property.__get__")))
    (pt_Row_signs : PySem.W.takesIn K (.ref p_Row_signs) = some true)
    (pr_Row_signs : PySem.W.recIn K p_Row_signs "property" = some (.ref f_Row_signs :: rs_Row_signs))
    (l_Row_signs : K.lookup f_Row_signs = some ⟨oc_Row_signs, od_Row_signs, .func (PySem.W.fnOf "signs" "Row.signs" (defArgs s_Row_signs) (defBody s_Row_signs) (defScope s_Row_signs) .none kV_Row_signs dc_Row_signs pm_Row_signs an_Row_signs cd_Row_signs ct_Row_signs), sl_Row_signs⟩)
    (d_Row_signs : PySem.W.codeIn K cd_Row_signs "Row.signs" = true)
    (k_Row_signs : PySem.W.keepIn K (.ref f_Row_signs) = true)
    (a_Row_heights : PySem.W.findIn K (.ref c_Row) "heights" = some (some (.ref p_Row_heights)))
    (pg_Row_heights : PySem.W.specialIn K (.ref p_Row_heights) "__get__" = some (some (.builtin "property.__get__")))
    (pt_Row_heights : PySem.W.takesIn K (.ref p_Row_heights) = some true)
    (pr_Row_heights : PySem.W.recIn K p_Row_heights "property" = some (.ref f_Row_heights :: rs_Row_heights))
    (l_Row_heights : K.lookup f_Row_heights = some ⟨oc_Row_heights, od_Row_heights, .func (PySem.W.fnOf "heights" "Row.heights" (defArgs s_Row_heights) (defBody s_Row_heights) (defScope s_Row_heights) .none kV_Row_heights dc_Row_heights pm_Row_heights an_Row_heights cd_Row_heights ct_Row_heights), sl_Row_heights⟩)
    (d_Row_heights : PySem.W.codeIn K cd_Row_heights "Row.heights" = true)
    (k_Row_heights : PySem.W.keepIn K (.ref f_Row_heights) = true)
    (a_Row_len : PySem.W.findIn K (.ref c_Row) "__len__" = some (some (.ref f_Row_len)))
    (i_Row_len : PySem.W.isFn K (.ref f_Row_len) = true)
    (l_Row_len : K.lookup f_Row_len = some ⟨oc_Row_len, od_Row_len, .func (PySem.W.fnOf "__len__" "Row.__len__" (defArgs s_Row_len) (defBody s_Row_len) (defScope s_Row_len) .none kV_Row_len dc_Row_len pm_Row_len an_Row_len cd_Row_len ct_Row_len), sl_Row_len⟩)
    (d_Row_len : PySem.W.codeIn K cd_Row_len "Row.__len__" = true)
    (k_Row_len : PySem.W.keepIn K (.ref f_Row_len) = true)
    (a_Row_iter : PySem.W.findIn K (.ref c_Row) "__iter__" = some (some (.ref f_Row_iter)))
    (i_Row_iter : PySem.W.isFn K (.ref f_Row_iter) = true)
    (l_Row_iter : K.lookup f_Row_iter = some ⟨oc_Row_iter, od_Row_iter, .func (PySem.W.fnOf "__iter__" "Row.__iter__" (defArgs s_Row_iter) (defBody s_Row_iter) (defScope s_Row_iter) .none kV_Row_iter dc_Row_iter pm_Row_iter an_Row_iter cd_Row_iter ct_Row_iter), sl_Row_iter⟩)
    (d_Row_iter : PySem.W.codeIn K cd_Row_iter "Row.__iter__" = true)
    (k_Row_iter : PySem.W.keepIn K (.ref f_Row_iter) = true)
    (a_Row_abs : PySem.W.findIn K (.ref c_Row) "__abs__" = some (some (.ref f_Row_abs)))
    (i_Row_abs : PySem.W.isFn K (.ref f_Row_abs) = true)
    (l_Row_abs : K.lookup f_Row_abs = some ⟨oc_Row_abs, od_Row_abs, .func (PySem.W.fnOf "__abs__" "Row.__abs__" (defArgs s_Row_abs) (defBody s_Row_abs) (defScope s_Row_abs) .none kV_Row_abs dc_Row_abs pm_Row_abs an_Row_abs cd_Row_abs ct_Row_abs), sl_Row_abs⟩)
    (d_Row_abs : PySem.W.codeIn K cd_Row_abs "Row.__abs__" = true)
    (k_Row_abs : PySem.W.keepIn K (.ref f_Row_abs) = true)
    (a__law_pool : PySem.W.nsIn K mainGlobals "_law_pool" = some (some (.ref f__law_pool)))
    (l__law_pool : K.lookup f__law_pool = some ⟨oc__law_pool, od__law_pool, .func (PySem.W.fnOf "_law_pool" "_law_pool" (defArgs s__law_pool) (defBody s__law_pool) (defScope s__law_pool) .none kV__law_pool dc__law_pool pm__law_pool an__law_pool cd__law_pool ct__law_pool), sl__law_pool⟩)
    (d__law_pool : PySem.W.codeIn K cd__law_pool "_law_pool" = true)
    (k__law_pool : PySem.W.keepIn K (.ref f__law_pool) = true)
    (a__law_pick : PySem.W.nsIn K mainGlobals "_law_pick" = some (some (.ref f__law_pick)))
    (l__law_pick : K.lookup f__law_pick = some ⟨oc__law_pick, od__law_pick, .func (PySem.W.fnOf "_law_pick" "_law_pick" (defArgs s__law_pick) (defBody s__law_pick) (defScope s__law_pick) .none kV__law_pick dc__law_pick pm__law_pick an__law_pick cd__law_pick ct__law_pick), sl__law_pick⟩)
    (d__law_pick : PySem.W.codeIn K cd__law_pick "_law_pick" = true)
    (k__law_pick : PySem.W.keepIn K (.ref f__law_pick) = true)
    (a__law_is_int : PySem.W.nsIn K mainGlobals "_law_is_int" = some (some (.ref f__law_is_int)))
    (l__law_is_int : K.lookup f__law_is_int = some ⟨oc__law_is_int, od__law_is_int, .func (PySem.W.fnOf "_law_is_int" "_law_is_int" (defArgs s__law_is_int) (defBody s__law_is_int) (defScope s__law_is_int) .none kV__law_is_int dc__law_is_int pm__law_is_int an__law_is_int cd__law_is_int ct__law_is_int), sl__law_is_int⟩)
    (d__law_is_int : PySem.W.codeIn K cd__law_is_int "_law_is_int" = true)
    (k__law_is_int : PySem.W.keepIn K (.ref f__law_is_int) = true)
    (a__law_shows : PySem.W.nsIn K mainGlobals "_law_shows" = some (some (.ref f__law_shows)))
    (l__law_shows : K.lookup f__law_shows = some ⟨oc__law_shows, od__law_shows, .func (PySem.W.fnOf "_law_shows" "_law_shows" (defArgs s__law_shows) (defBody s__law_shows) (defScope s__law_shows) .none kV__law_shows dc__law_shows pm__law_shows an__law_shows cd__law_shows ct__law_shows), sl__law_shows⟩)
    (d__law_shows : PySem.W.codeIn K cd__law_shows "_law_shows" = true)
    (k__law_shows : PySem.W.keepIn K (.ref f__law_shows) = true)
    (a__law_row_of : PySem.W.nsIn K mainGlobals "_law_row_of" = some (some (.ref f__law_row_of)))
    (l__law_row_of : K.lookup f__law_row_of = some ⟨oc__law_row_of, od__law_row_of, .func (PySem.W.fnOf "_law_row_of" "_law_row_of" (defArgs s__law_row_of) (defBody s__law_row_of) (defScope s__law_row_of) .none kV__law_row_of dc__law_row_of pm__law_row_of an__law_row_of cd__law_row_of ct__law_row_of), sl__law_row_of⟩)
    (d__law_row_of : PySem.W.codeIn K cd__law_row_of "_law_row_of" = true)
    (k__law_row_of : PySem.W.keepIn K (.ref f__law_row_of) = true)
    (a__law_as_row : PySem.W.nsIn K mainGlobals "_law_as_row" = some (some (.ref f__law_as_row)))
    (l__law_as_row : K.lookup f__law_as_row = some ⟨oc__law_as_row, od__law_as_row, .func (PySem.W.fnOf "_law_as_row" "_law_as_row" (defArgs s__law_as_row) (defBody s__law_as_row) (defScope s__law_as_row) .none kV__law_as_row dc__law_as_row pm__law_as_row an__law_as_row cd__law_as_row ct__law_as_row), sl__law_as_row⟩)
    (d__law_as_row : PySem.W.codeIn K cd__law_as_row "_law_as_row" = true)
    (k__law_as_row : PySem.W.keepIn K (.ref f__law_as_row) = true)
    (a__law_odd_sign : PySem.W.nsIn K mainGlobals "_law_odd_sign" = some (some (.ref f__law_odd_sign)))
    (l__law_odd_sign : K.lookup f__law_odd_sign = some ⟨oc__law_odd_sign, od__law_odd_sign, .func (PySem.W.fnOf "_law_odd_sign" "_law_odd_sign" (defArgs s__law_odd_sign) (defBody s__law_odd_sign) (defScope s__law_odd_sign) .none kV__law_odd_sign dc__law_odd_sign pm__law_odd_sign an__law_odd_sign cd__law_odd_sign ct__law_odd_sign), sl__law_odd_sign⟩)
    (d__law_odd_sign : PySem.W.codeIn K cd__law_odd_sign "_law_odd_sign" = true)
    (k__law_odd_sign : PySem.W.keepIn K (.ref f__law_odd_sign) = true)
    (a__law_is : PySem.W.nsIn K mainGlobals "_law_is" = some (some (.ref f__law_is)))
    (l__law_is : K.lookup f__law_is = some ⟨oc__law_is, od__law_is, .func (PySem.W.fnOf "_law_is" "_law_is" (defArgs s__law_is) (defBody s__law_is) (defScope s__law_is) .none kV__law_is dc__law_is pm__law_is an__law_is cd__law_is ct__law_is), sl__law_is⟩)
    (d__law_is : PySem.W.codeIn K cd__law_is "_law_is" = true)
    (k__law_is : PySem.W.keepIn K (.ref f__law_is) = true)
    (a_Row_eq : PySem.W.findIn K (.ref c_Row) "__eq__" = some (some (.ref f_Row_eq)))
    (i_Row_eq : PySem.W.isFn K (.ref f_Row_eq) = true)
    (l_Row_eq : K.lookup f_Row_eq = some ⟨oc_Row_eq, od_Row_eq, .func (PySem.W.fnOf "__eq__" "Row.__eq__" (defArgs s_Row_eq) (defBody s_Row_eq) (defScope s_Row_eq) .none kV_Row_eq dc_Row_eq pm_Row_eq an_Row_eq cd_Row_eq ct_Row_eq), sl_Row_eq⟩)
    (d_Row_eq : PySem.W.codeIn K cd_Row_eq "Row.__eq__" = true)
    (k_Row_eq : PySem.W.keepIn K (.ref f_Row_eq) = true)
    (a_Row_lt : PySem.W.findIn K (.ref c_Row) "__lt__" = some (some (.ref f_Row_lt)))
    (i_Row_lt : PySem.W.isFn K (.ref f_Row_lt) = true)
    (l_Row_lt : K.lookup f_Row_lt = some ⟨oc_Row_lt, od_Row_lt, .func (PySem.W.fnOf "__lt__" "Row.__lt__" (defArgs s_Row_lt) (defBody s_Row_lt) (defScope s_Row_lt) .none kV_Row_lt dc_Row_lt pm_Row_lt an_Row_lt cd_Row_lt ct_Row_lt), sl_Row_lt⟩)
    (d_Row_lt : PySem.W.codeIn K cd_Row_lt "Row.__lt__" = true)
    (k_Row_lt : PySem.W.keepIn K (.ref f_Row_lt) = true)
    (a_Row_contains : PySem.W.findIn K (.ref c_Row) "__contains__" = some (some (.ref f_Row_contains)))
    (i_Row_contains : PySem.W.isFn K (.ref f_Row_contains) = true)
    (l_Row_contains : K.lookup f_Row_contains = some ⟨oc_Row_contains, od_Row_contains, .func (PySem.W.fnOf "__contains__" "Row.__contains__" (defArgs s_Row_contains) (defBody s_Row_contains) (defScope s_Row_contains) .none kV_Row_contains dc_Row_contains pm_Row_contains an_Row_contains cd_Row_contains ct_Row_contains), sl_Row_contains⟩)
    (d_Row_contains : PySem.W.codeIn K cd_Row_contains "Row.__contains__" = true)
    (k_Row_contains : PySem.W.keepIn K (.ref f_Row_contains) = true)
    (a__law_near : PySem.W.nsIn K mainGlobals "_law_near" = some (some (.ref f__law_near)))
    (l__law_near : K.lookup f__law_near = some ⟨oc__law_near, od__law_near, .func (PySem.W.fnOf "_law_near" "_law_near" (defArgs s__law_near) (defBody s__law_near) (defScope s__law_near) .none kV__law_near dc__law_near pm__law_near an__law_near cd__law_near ct__law_near), sl__law_near⟩)
    (d__law_near : PySem.W.codeIn K cd__law_near "_law_near" = true)
    (k__law_near : PySem.W.keepIn K (.ref f__law_near) = true)
    (a__law_string_of : PySem.W.nsIn K mainGlobals "_law_string_of" = some (some (.ref f__law_string_of)))
    (l__law_string_of : K.lookup f__law_string_of = some ⟨oc__law_string_of, od__law_string_of, .func (PySem.W.fnOf "_law_string_of" "_law_string_of" (defArgs s__law_string_of) (defBody s__law_string_of) (defScope s__law_string_of) .none kV__law_string_of dc__law_string_of pm__law_string_of an__law_string_of cd__law_string_of ct__law_string_of), sl__law_string_of⟩)
    (d__law_string_of : PySem.W.codeIn K cd__law_string_of "_law_string_of" = true)
    (k__law_string_of : PySem.W.keepIn K (.ref f__law_string_of) = true)
    (a_law : PySem.W.nsIn K mainGlobals "law" = some (some (.ref f_law)))
    (l_law : K.lookup f_law = some ⟨oc_law, od_law, .func (PySem.W.fnOf "law" "law" (defArgs s_law) (defBody s_law) (defScope s_law) .none kV_law dc_law pm_law an_law cd_law ct_law), sl_law⟩)
    (d_law : PySem.W.codeIn K cd_law "law" = true)
    (k_law : PySem.W.keepIn K (.ref f_law) = true)
    : ∃ fd : FuncData, (∀ (s : Shared) (u : Value), BindsTo s fd ⟨[u], []⟩ [("_law_script", u)]) ∧ ∀ base : Heap, K.In base → base.Ns mainGlobals mg → FnOk prg w K mg base (L2.CX prg w) 12 fa fd ["_law_script"] (spLaw K) := by
  have e := hfa.symm.trans (PySem.W.mg_of X G a_law)
  have e2 : f_law = fa := by cases e; rfl
  subst e2
  let T : Txt K mg := {
    n_NotImplemented := PySem.W.mg_none_of X G z_NotImplemented
    n_abs := PySem.W.mg_none_of X G z_abs
    n_any := PySem.W.mg_none_of X G z_any
    n_bool := PySem.W.mg_none_of X G z_bool
    n_bytes := PySem.W.mg_none_of X G z_bytes
    n_enumerate := PySem.W.mg_none_of X G z_enumerate
    n_int := PySem.W.mg_none_of X G z_int
    n_isinstance := PySem.W.mg_none_of X G z_isinstance
    n_iter := PySem.W.mg_none_of X G z_iter
    n_len := PySem.W.mg_none_of X G z_len
    n_list := PySem.W.mg_none_of X G z_list
    n_max := PySem.W.mg_none_of X G z_max
    n_property := PySem.W.mg_none_of X G z_property
    n_range := PySem.W.mg_none_of X G z_range
    n_str := PySem.W.mg_none_of X G z_str
    n_tuple := PySem.W.mg_none_of X G z_tuple
    n_zip := PySem.W.mg_none_of X G z_zip
    k_SIGNS := ⟨_, PySem.W.mg_of X G a_SIGNS⟩
    k_GREATEST_HEIGHT := ⟨_, PySem.W.mg_of X G a_GREATEST_HEIGHT⟩
    c_BadSign := c_BadSign
    m_BadSign := PySem.W.mg_of X G a_BadSign
    o_BadSign := ⟨⟨nm_BadSign, q_BadSign, N_BadSign, bs_BadSign, bm_BadSign, sn_BadSign, sub_BadSign, ab_BadSign, col_BadSign, dd_BadSign, k0_BadSign, k1_BadSign, k2_BadSign, k3_BadSign, k5_BadSign, l_BadSign, ve_BadSign⟩, sa_BadSign, eb_BadSign, ty_BadSign, kc_BadSign⟩
    x_BadSign := ⟨⟨ga_BadSign, gg_BadSign, eb_BadSign, hd_BadSign⟩, nf_BadSign⟩
    f_BadSign_init := f_BadSign_init
    fd_BadSign_init := _
    i_BadSign := i_BadSign_init
    t_BadSign := t_BadSign_init
    F_BadSign_init := ⟨⟨_, _, _, _, _, _, _, _, _, _, _, _, _, _, _, _, _, _, _, _, rfl, l_BadSign_init, d_BadSign_init, e_BadSign_init, v_BadSign_init, g_BadSign_init, h_BadSign_init⟩, ops, PySem.W.mg_none_of X G z_super, si_BadSign, ev_BadSign, mc_BadSign, nf_BadSign, by rfl⟩
    b_BadSign_init := .all fun us hl => match us, hl with | [_, _], _ => rfl
    em_BadSign_BadSign := em_BadSign_BadSign
    c_BadHeight := c_BadHeight
    m_BadHeight := PySem.W.mg_of X G a_BadHeight
    o_BadHeight := ⟨⟨nm_BadHeight, q_BadHeight, N_BadHeight, bs_BadHeight, bm_BadHeight, sn_BadHeight, sub_BadHeight, ab_BadHeight, col_BadHeight, dd_BadHeight, k0_BadHeight, k1_BadHeight, k2_BadHeight, k3_BadHeight, k5_BadHeight, l_BadHeight, ve_BadHeight⟩, sa_BadHeight, eb_BadHeight, ty_BadHeight, kc_BadHeight⟩
    x_BadHeight := ⟨⟨ga_BadHeight, gg_BadHeight, eb_BadHeight, hd_BadHeight⟩, nf_BadHeight⟩
    f_BadHeight_init := f_BadHeight_init
    fd_BadHeight_init := _
    i_BadHeight := i_BadHeight_init
    t_BadHeight := t_BadHeight_init
    F_BadHeight_init := ⟨⟨_, _, _, _, _, _, _, _, _, _, _, _, _, _, _, _, _, _, _, _, rfl, l_BadHeight_init, d_BadHeight_init, e_BadHeight_init, v_BadHeight_init, g_BadHeight_init, h_BadHeight_init⟩, ops, PySem.W.mg_none_of X G z_super, si_BadHeight, ev_BadHeight, mc_BadHeight, nf_BadHeight, by rfl⟩
    b_BadHeight_init := .all fun us hl => match us, hl with | [_, _], _ => rfl
    em_BadHeight_BadSign := em_BadHeight_BadSign
    em_BadHeight_BadHeight := em_BadHeight_BadHeight
    c_Uneven := c_Uneven
    m_Uneven := PySem.W.mg_of X G a_Uneven
    o_Uneven := o_Uneven
    kp_Uneven := kp_Uneven
    r_Uneven := r_Uneven
    t_Uneven := t_Uneven
    em_Uneven_BadSign := em_Uneven_BadSign
    em_Uneven_BadHeight := em_Uneven_BadHeight
    em_Uneven_Uneven := em_Uneven_Uneven
    em_BadSign_BadHeight := em_BadSign_BadHeight
    em_BadSign_Uneven := em_BadSign_Uneven
    em_BadHeight_Uneven := em_BadHeight_Uneven
    c_Row := c_Row
    m_Row := PySem.W.mg_of X G a_Row
    cl_Row := ⟨pg_Row, hd_Row, po_Row, sa_Row⟩
    mk_Row := mk_Row
    kp_Row := kc_Row
    is_Row := ⟨⟨pg_Row, hd_Row, po_Row, sa_Row⟩, j0_Row, j1_Row, j2_Row, j3_Row, j4_Row⟩
    sf_Row := sf_Row
    fx_Row_obj := fx_Row_obj
    fx_Row_lst := fx_Row_lst
    fx_Row_ne := fx_Row_ne
    fx_Row_kstr := fx_Row_kstr
    fx_Row_klst := fx_Row_klst
    nsq_Row := nsq_Row
    na_Row__pairs := na_Row__pairs
    f_check_text := f_check_text
    fd_check_text := PySem.W.fnOf "check_text" "check_text" (defArgs s_check_text) (defBody s_check_text) (defScope s_check_text) .none kV_check_text dc_check_text pm_check_text an_check_text cd_check_text ct_check_text
    F_check_text := fun_mk (st := s_check_text) l_check_text d_check_text k_check_text
    b_check_text := (fun_mk (st := s_check_text) l_check_text d_check_text k_check_text).binds (ps := P_check_text) fun _ _ _ _ _ _ us hl => match us, hl with | [_], _ => rfl
    m_check_text := PySem.W.mg_of X G a_check_text
    f_decoded := f_decoded
    fd_decoded := PySem.W.fnOf "decoded" "decoded" (defArgs s_decoded) (defBody s_decoded) (defScope s_decoded) .none kV_decoded dc_decoded pm_decoded an_decoded cd_decoded ct_decoded
    F_decoded := fun_mk (st := s_decoded) l_decoded d_decoded k_decoded
    b_decoded := (fun_mk (st := s_decoded) l_decoded d_decoded k_decoded).binds (ps := P_decoded) fun _ _ _ _ _ _ us hl => match us, hl with | [_], _ => rfl
    m_decoded := PySem.W.mg_of X G a_decoded
    f_check_height := f_check_height
    fd_check_height := PySem.W.fnOf "check_height" "check_height" (defArgs s_check_height) (defBody s_check_height) (defScope s_check_height) .none kV_check_height dc_check_height pm_check_height an_check_height cd_check_height ct_check_height
    F_check_height := fun_mk (st := s_check_height) l_check_height d_check_height k_check_height
    b_check_height := (fun_mk (st := s_check_height) l_check_height d_check_height k_check_height).binds (ps := P_check_height) fun _ _ _ _ _ _ us hl => match us, hl with | [_, _], _ => rfl
    m_check_height := PySem.W.mg_of X G a_check_height
    f_Row_init := f_Row_init
    fd_Row_init := PySem.W.fnOf "__init__" "Row.__init__" (defArgs s_Row_init) (defBody s_Row_init) (defScope s_Row_init) (.ref dT_Row_init) kV_Row_init dc_Row_init pm_Row_init an_Row_init cd_Row_init ct_Row_init
    D_Row_init := ⟨⟨_, _, _, _, _, _, _, _, _, _, rfl, l_Row_init, d_Row_init, .inr ⟨by simp, dT_Row_init, _, _, un_Row_init, rfl, u_Row_init, rfl, .cons ⟨_, rfl⟩ (.cons rfl (.nil))⟩, .inl rfl⟩, k_Row_init⟩
    kp_Row_init := k_Row_init
    M_Row_init := ⟨a_Row_init, i_Row_init, k_Row_init⟩
    f_Row_signs := f_Row_signs
    fd_Row_signs := PySem.W.fnOf "signs" "Row.signs" (defArgs s_Row_signs) (defBody s_Row_signs) (defScope s_Row_signs) .none kV_Row_signs dc_Row_signs pm_Row_signs an_Row_signs cd_Row_signs ct_Row_signs
    F_Row_signs := fun_mk (st := s_Row_signs) l_Row_signs d_Row_signs k_Row_signs
    b_Row_signs := (fun_mk (st := s_Row_signs) l_Row_signs d_Row_signs k_Row_signs).binds (ps := P_Row_signs) fun _ _ _ _ _ _ us hl => match us, hl with | [_], _ => rfl
    p_Row_signs := p_Row_signs
    M_Row_signs := ⟨a_Row_signs, pg_Row_signs, pt_Row_signs, ⟨_, pr_Row_signs⟩⟩
    f_Row_heights := f_Row_heights
    fd_Row_heights := PySem.W.fnOf "heights" "Row.heights" (defArgs s_Row_heights) (defBody s_Row_heights) (defScope s_Row_heights) .none kV_Row_heights dc_Row_heights pm_Row_heights an_Row_heights cd_Row_heights ct_Row_heights
    F_Row_heights := fun_mk (st := s_Row_heights) l_Row_heights d_Row_heights k_Row_heights
    b_Row_heights := (fun_mk (st := s_Row_heights) l_Row_heights d_Row_heights k_Row_heights).binds (ps := P_Row_heights) fun _ _ _ _ _ _ us hl => match us, hl with | [_], _ => rfl
    p_Row_heights := p_Row_heights
    M_Row_heights := ⟨a_Row_heights, pg_Row_heights, pt_Row_heights, ⟨_, pr_Row_heights⟩⟩
    f_Row_len := f_Row_len
    fd_Row_len := PySem.W.fnOf "__len__" "Row.__len__" (defArgs s_Row_len) (defBody s_Row_len) (defScope s_Row_len) .none kV_Row_len dc_Row_len pm_Row_len an_Row_len cd_Row_len ct_Row_len
    F_Row_len := fun_mk (st := s_Row_len) l_Row_len d_Row_len k_Row_len
    b_Row_len := (fun_mk (st := s_Row_len) l_Row_len d_Row_len k_Row_len).binds (ps := P_Row_len) fun _ _ _ _ _ _ us hl => match us, hl with | [_], _ => rfl
    M_Row_len := ⟨a_Row_len, i_Row_len, k_Row_len⟩
    f_Row_iter := f_Row_iter
    fd_Row_iter := PySem.W.fnOf "__iter__" "Row.__iter__" (defArgs s_Row_iter) (defBody s_Row_iter) (defScope s_Row_iter) .none kV_Row_iter dc_Row_iter pm_Row_iter an_Row_iter cd_Row_iter ct_Row_iter
    F_Row_iter := fun_mk (st := s_Row_iter) l_Row_iter d_Row_iter k_Row_iter
    b_Row_iter := (fun_mk (st := s_Row_iter) l_Row_iter d_Row_iter k_Row_iter).binds (ps := P_Row_iter) fun _ _ _ _ _ _ us hl => match us, hl with | [_], _ => rfl
    M_Row_iter := ⟨a_Row_iter, i_Row_iter, k_Row_iter⟩
    f_Row_abs := f_Row_abs
    fd_Row_abs := PySem.W.fnOf "__abs__" "Row.__abs__" (defArgs s_Row_abs) (defBody s_Row_abs) (defScope s_Row_abs) .none kV_Row_abs dc_Row_abs pm_Row_abs an_Row_abs cd_Row_abs ct_Row_abs
    F_Row_abs := fun_mk (st := s_Row_abs) l_Row_abs d_Row_abs k_Row_abs
    b_Row_abs := (fun_mk (st := s_Row_abs) l_Row_abs d_Row_abs k_Row_abs).binds (ps := P_Row_abs) fun _ _ _ _ _ _ us hl => match us, hl with | [_], _ => rfl
    M_Row_abs := ⟨a_Row_abs, i_Row_abs, k_Row_abs⟩
    f__law_pool := f__law_pool
    fd__law_pool := PySem.W.fnOf "_law_pool" "_law_pool" (defArgs s__law_pool) (defBody s__law_pool) (defScope s__law_pool) .none kV__law_pool dc__law_pool pm__law_pool an__law_pool cd__law_pool ct__law_pool
    F__law_pool := fun_mk (st := s__law_pool) l__law_pool d__law_pool k__law_pool
    b__law_pool := (fun_mk (st := s__law_pool) l__law_pool d__law_pool k__law_pool).binds (ps := P__law_pool) fun _ _ _ _ _ _ us hl => match us, hl with | [_], _ => rfl
    m__law_pool := PySem.W.mg_of X G a__law_pool
    f__law_pick := f__law_pick
    fd__law_pick := PySem.W.fnOf "_law_pick" "_law_pick" (defArgs s__law_pick) (defBody s__law_pick) (defScope s__law_pick) .none kV__law_pick dc__law_pick pm__law_pick an__law_pick cd__law_pick ct__law_pick
    F__law_pick := fun_mk (st := s__law_pick) l__law_pick d__law_pick k__law_pick
    b__law_pick := (fun_mk (st := s__law_pick) l__law_pick d__law_pick k__law_pick).binds (ps := P__law_pick) fun _ _ _ _ _ _ us hl => match us, hl with | [_, _], _ => rfl
    m__law_pick := PySem.W.mg_of X G a__law_pick
    f__law_is_int := f__law_is_int
    fd__law_is_int := PySem.W.fnOf "_law_is_int" "_law_is_int" (defArgs s__law_is_int) (defBody s__law_is_int) (defScope s__law_is_int) .none kV__law_is_int dc__law_is_int pm__law_is_int an__law_is_int cd__law_is_int ct__law_is_int
    F__law_is_int := fun_mk (st := s__law_is_int) l__law_is_int d__law_is_int k__law_is_int
    b__law_is_int := (fun_mk (st := s__law_is_int) l__law_is_int d__law_is_int k__law_is_int).binds (ps := P__law_is_int) fun _ _ _ _ _ _ us hl => match us, hl with | [_], _ => rfl
    m__law_is_int := PySem.W.mg_of X G a__law_is_int
    f__law_shows := f__law_shows
    fd__law_shows := PySem.W.fnOf "_law_shows" "_law_shows" (defArgs s__law_shows) (defBody s__law_shows) (defScope s__law_shows) .none kV__law_shows dc__law_shows pm__law_shows an__law_shows cd__law_shows ct__law_shows
    F__law_shows := fun_mk (st := s__law_shows) l__law_shows d__law_shows k__law_shows
    b__law_shows := (fun_mk (st := s__law_shows) l__law_shows d__law_shows k__law_shows).binds (ps := P__law_shows) fun _ _ _ _ _ _ us hl => match us, hl with | [_, _], _ => rfl
    m__law_shows := PySem.W.mg_of X G a__law_shows
    f__law_row_of := f__law_row_of
    fd__law_row_of := PySem.W.fnOf "_law_row_of" "_law_row_of" (defArgs s__law_row_of) (defBody s__law_row_of) (defScope s__law_row_of) .none kV__law_row_of dc__law_row_of pm__law_row_of an__law_row_of cd__law_row_of ct__law_row_of
    F__law_row_of := fun_mk (st := s__law_row_of) l__law_row_of d__law_row_of k__law_row_of
    b__law_row_of := (fun_mk (st := s__law_row_of) l__law_row_of d__law_row_of k__law_row_of).binds (ps := P__law_row_of) fun _ _ _ _ _ _ us hl => match us, hl with | [_, _], _ => rfl
    m__law_row_of := PySem.W.mg_of X G a__law_row_of
    f__law_as_row := f__law_as_row
    fd__law_as_row := PySem.W.fnOf "_law_as_row" "_law_as_row" (defArgs s__law_as_row) (defBody s__law_as_row) (defScope s__law_as_row) .none kV__law_as_row dc__law_as_row pm__law_as_row an__law_as_row cd__law_as_row ct__law_as_row
    F__law_as_row := fun_mk (st := s__law_as_row) l__law_as_row d__law_as_row k__law_as_row
    b__law_as_row := (fun_mk (st := s__law_as_row) l__law_as_row d__law_as_row k__law_as_row).binds (ps := P__law_as_row) fun _ _ _ _ _ _ us hl => match us, hl with | [_], _ => rfl
    m__law_as_row := PySem.W.mg_of X G a__law_as_row
    f__law_odd_sign := f__law_odd_sign
    fd__law_odd_sign := PySem.W.fnOf "_law_odd_sign" "_law_odd_sign" (defArgs s__law_odd_sign) (defBody s__law_odd_sign) (defScope s__law_odd_sign) .none kV__law_odd_sign dc__law_odd_sign pm__law_odd_sign an__law_odd_sign cd__law_odd_sign ct__law_odd_sign
    F__law_odd_sign := fun_mk (st := s__law_odd_sign) l__law_odd_sign d__law_odd_sign k__law_odd_sign
    b__law_odd_sign := (fun_mk (st := s__law_odd_sign) l__law_odd_sign d__law_odd_sign k__law_odd_sign).binds (ps := P__law_odd_sign) fun _ _ _ _ _ _ us hl => match us, hl with | [_], _ => rfl
    m__law_odd_sign := PySem.W.mg_of X G a__law_odd_sign
    f__law_is := f__law_is
    fd__law_is := PySem.W.fnOf "_law_is" "_law_is" (defArgs s__law_is) (defBody s__law_is) (defScope s__law_is) .none kV__law_is dc__law_is pm__law_is an__law_is cd__law_is ct__law_is
    F__law_is := fun_mk (st := s__law_is) l__law_is d__law_is k__law_is
    b__law_is := (fun_mk (st := s__law_is) l__law_is d__law_is k__law_is).binds (ps := P__law_is) fun _ _ _ _ _ _ us hl => match us, hl with | [_, _], _ => rfl
    m__law_is := PySem.W.mg_of X G a__law_is
    f_Row_eq := f_Row_eq
    fd_Row_eq := PySem.W.fnOf "__eq__" "Row.__eq__" (defArgs s_Row_eq) (defBody s_Row_eq) (defScope s_Row_eq) .none kV_Row_eq dc_Row_eq pm_Row_eq an_Row_eq cd_Row_eq ct_Row_eq
    F_Row_eq := fun_mk (st := s_Row_eq) l_Row_eq d_Row_eq k_Row_eq
    b_Row_eq := (fun_mk (st := s_Row_eq) l_Row_eq d_Row_eq k_Row_eq).binds (ps := P_Row_eq) fun _ _ _ _ _ _ us hl => match us, hl with | [_, _], _ => rfl
    M_Row_eq := ⟨a_Row_eq, i_Row_eq, k_Row_eq⟩
    f_Row_lt := f_Row_lt
    fd_Row_lt := PySem.W.fnOf "__lt__" "Row.__lt__" (defArgs s_Row_lt) (defBody s_Row_lt) (defScope s_Row_lt) .none kV_Row_lt dc_Row_lt pm_Row_lt an_Row_lt cd_Row_lt ct_Row_lt
    F_Row_lt := fun_mk (st := s_Row_lt) l_Row_lt d_Row_lt k_Row_lt
    b_Row_lt := (fun_mk (st := s_Row_lt) l_Row_lt d_Row_lt k_Row_lt).binds (ps := P_Row_lt) fun _ _ _ _ _ _ us hl => match us, hl with | [_, _], _ => rfl
    M_Row_lt := ⟨a_Row_lt, i_Row_lt, k_Row_lt⟩
    f_Row_contains := f_Row_contains
    fd_Row_contains := PySem.W.fnOf "__contains__" "Row.__contains__" (defArgs s_Row_contains) (defBody s_Row_contains) (defScope s_Row_contains) .none kV_Row_contains dc_Row_contains pm_Row_contains an_Row_contains cd_Row_contains ct_Row_contains
    F_Row_contains := fun_mk (st := s_Row_contains) l_Row_contains d_Row_contains k_Row_contains
    b_Row_contains := (fun_mk (st := s_Row_contains) l_Row_contains d_Row_contains k_Row_contains).binds (ps := P_Row_contains) fun _ _ _ _ _ _ us hl => match us, hl with | [_, _], _ => rfl
    M_Row_contains := ⟨a_Row_contains, i_Row_contains, k_Row_contains⟩
    f__law_near := f__law_near
    fd__law_near := PySem.W.fnOf "_law_near" "_law_near" (defArgs s__law_near) (defBody s__law_near) (defScope s__law_near) .none kV__law_near dc__law_near pm__law_near an__law_near cd__law_near ct__law_near
    F__law_near := fun_mk (st := s__law_near) l__law_near d__law_near k__law_near
    b__law_near := (fun_mk (st := s__law_near) l__law_near d__law_near k__law_near).binds (ps := P__law_near) fun _ _ _ _ _ _ us hl => match us, hl with | [_, _], _ => rfl
    m__law_near := PySem.W.mg_of X G a__law_near
    f__law_string_of := f__law_string_of
    fd__law_string_of := PySem.W.fnOf "_law_string_of" "_law_string_of" (defArgs s__law_string_of) (defBody s__law_string_of) (defScope s__law_string_of) .none kV__law_string_of dc__law_string_of pm__law_string_of an__law_string_of cd__law_string_of ct__law_string_of
    F__law_string_of := fun_mk (st := s__law_string_of) l__law_string_of d__law_string_of k__law_string_of
    b__law_string_of := (fun_mk (st := s__law_string_of) l__law_string_of d__law_string_of k__law_string_of).binds (ps := P__law_string_of) fun _ _ _ _ _ _ us hl => match us, hl with | [_, _], _ => rfl
    m__law_string_of := PySem.W.mg_of X G a__law_string_of
    f_law := f_law
    fd_law := PySem.W.fnOf "law" "law" (defArgs s_law) (defBody s_law) (defScope s_law) .none kV_law dc_law pm_law an_law cd_law ct_law
    F_law := fun_mk (st := s_law) l_law d_law k_law
    b_law := (fun_mk (st := s_law) l_law d_law k_law).binds (ps := P_law) fun _ _ _ _ _ _ us hl => match us, hl with | [_], _ => rfl
    m_law := PySem.W.mg_of X G a_law
  }
  exact ⟨T.fd_law, fun s v => .of_eq rfl, fun base _ _ => ok_law T⟩
theorem walk {l : PySem.W.OpenLaw} {q : Program} {loose : List Str} {XP : (Str → Option Value) → Heap → Prop} {YP : World → Heap → Prop} {d : DefRec} {K : Params → PySem.W.Frag} (hn : l.most = some 63) (hdf : d.params.defaults = []) (hp : l.prog = prg)
    (hY : ∀ (w : World) (h : Heap), YP w h → (K w.params).In h)
    (F : ∀ (w : World) (mg : Str → Option Value) (fa : Addr) (h : Heap), (K w.params).In h → h.Ns mainGlobals mg → mg d.name = some (.ref fa) →
      ∃ fd : FuncData, (∀ (s : Shared) (u : Value), BindsTo s fd ⟨[u], []⟩ [("_law_script", u)]) ∧ ∀ base : Heap, (K w.params).In base → base.Ns mainGlobals mg → FnOk prg w (K w.params) mg base (L2.CX prg w) 12 fa fd ["_law_script"] (spLaw (K w.params))) :
    PySem.W.WalkO q loose XP YP l.row.toRowW d [] (fun f vs => PySem.call f vs) :=
  L2.walk_of (n := 63) (k := 12) (x := "_law_script") (CX := fun w => L2.CX prg w) (sp := fun w => spLaw (K w.params)) hn (by decide) hdf ⟨rfl, by decide, by decide⟩ hY (by rw [hp]; exact F) (fun _ _ a ns hl _ hS => ⟨a, ns, rfl, hS, hl, fun _ => rfl⟩) fun w H s e s' z => no_cx w H s e s' z
end Rz
open PySem PySem.W PyProof.Rows in
set_option maxRecDepth 100000 in
set_option maxHeartbeats 0 in
theorem PySem.Challenge.cw_risensigns_k03_rows_compared_holds : PySem.Challenge.rw_risensigns_k03_rows_compared.Holds := by
  w_on; o_law; k_head; (case hw => w_witness2)
  k_fill
  refine Rz.walk (l := PySem.Challenge.rw_risensigns_k03_rows_compared) rfl rfl rfl (fun w h Y => PySem.W.kIn_of Y) ?F
  case F =>
    intro w mg fa h KX G hmg
    refine' Rz.all_mk KX G hmg ?z_NotImplemented ?z_abs ?z_any ?z_bool ?z_bytes ?z_enumerate ?z_int ?z_isinstance ?z_iter ?z_len ?z_list ?z_max ?z_property ?z_range ?z_str ?z_tuple ?z_zip ?a_SIGNS ?a_GREATEST_HEIGHT ?a_BadSign ?l_BadSign ?ve_BadSign ?sa_BadSign ?eb_BadSign ?ev_BadSign ?ty_BadSign ?kc_BadSign ?ga_BadSign ?gg_BadSign ?nf_BadSign ?hd_BadSign ?mc_BadSign ?si_BadSign ?i_BadSign_init ?t_BadSign_init ?l_BadSign_init ?d_BadSign_init ?e_BadSign_init ?v_BadSign_init ?g_BadSign_init ?h_BadSign_init ?em_BadSign_BadSign ?a_BadHeight ?l_BadHeight ?ve_BadHeight ?sa_BadHeight ?eb_BadHeight ?ev_BadHeight ?ty_BadHeight ?kc_BadHeight ?ga_BadHeight ?gg_BadHeight ?nf_BadHeight ?hd_BadHeight ?mc_BadHeight ?si_BadHeight ?i_BadHeight_init ?t_BadHeight_init ?l_BadHeight_init ?d_BadHeight_init ?e_BadHeight_init ?v_BadHeight_init ?g_BadHeight_init ?h_BadHeight_init ?em_BadHeight_BadSign ?em_BadHeight_BadHeight ?a_Uneven ?o_Uneven ?kp_Uneven ?r_Uneven ?t_Uneven ?em_Uneven_BadSign ?em_Uneven_BadHeight ?em_Uneven_Uneven ?em_BadSign_BadHeight ?em_BadSign_Uneven ?em_BadHeight_Uneven ?z_super ?ops ?a_Row ?pg_Row ?hd_Row ?po_Row ?sa_Row ?mk_Row ?kc_Row ?j0_Row ?j1_Row ?j2_Row ?j3_Row ?j4_Row ?sf_Row ?fx_Row_obj ?fx_Row_lst ?fx_Row_ne ?fx_Row_kstr ?fx_Row_klst ?nsq_Row ?na_Row__pairs ?a_check_text ?l_check_text ?d_check_text ?k_check_text ?a_decoded ?l_decoded ?d_decoded ?k_decoded ?a_check_height ?l_check_height ?d_check_height ?k_check_height ?a_Row_init ?i_Row_init ?l_Row_init ?d_Row_init ?k_Row_init ?u_Row_init ?a_Row_signs ?pg_Row_signs ?pt_Row_signs ?pr_Row_signs ?l_Row_signs ?d_Row_signs ?k_Row_signs ?a_Row_heights ?pg_Row_heights ?pt_Row_heights ?pr_Row_heights ?l_Row_heights ?d_Row_heights ?k_Row_heights ?a_Row_len ?i_Row_len ?l_Row_len ?d_Row_len ?k_Row_len ?a_Row_iter ?i_Row_iter ?l_Row_iter ?d_Row_iter ?k_Row_iter ?a_Row_abs ?i_Row_abs ?l_Row_abs ?d_Row_abs ?k_Row_abs ?a__law_pool ?l__law_pool ?d__law_pool ?k__law_pool ?a__law_pick ?l__law_pick ?d__law_pick ?k__law_pick ?a__law_is_int ?l__law_is_int ?d__law_is_int ?k__law_is_int ?a__law_shows ?l__law_shows ?d__law_shows ?k__law_shows ?a__law_row_of ?l__law_row_of ?d__law_row_of ?k__law_row_of ?a__law_as_row ?l__law_as_row ?d__law_as_row ?k__law_as_row ?a__law_odd_sign ?l__law_odd_sign ?d__law_odd_sign ?k__law_odd_sign ?a__law_is ?l__law_is ?d__law_is ?k__law_is ?a_Row_eq ?i_Row_eq ?l_Row_eq ?d_Row_eq ?k_Row_eq ?a_Row_lt ?i_Row_lt ?l_Row_lt ?d_Row_lt ?k_Row_lt ?a_Row_contains ?i_Row_contains ?l_Row_contains ?d_Row_contains ?k_Row_contains ?a__law_near ?l__law_near ?d__law_near ?k__law_near ?a__law_string_of ?l__law_string_of ?d__law_string_of ?k__law_string_of ?a_law ?l_law ?d_law ?k_law
    (case z_NotImplemented => k_is)
    (case z_abs => k_is)
    (case z_any => k_is)
    (case z_bool => k_is)
    (case z_bytes => k_is)
    (case z_enumerate => k_is)
    (case z_int => k_is)
    (case z_isinstance => k_is)
    (case z_iter => k_is)
    (case z_len => k_is)
    (case z_list => k_is)
    (case z_max => k_is)
    (case z_property => k_is)
    (case z_range => k_is)
    (case z_str => k_is)
    (case z_tuple => k_is)
    (case z_zip => k_is)
    (case a_SIGNS => k_is)
    (case a_GREATEST_HEIGHT => k_is)
    (case a_BadSign => k_is)
    (case l_BadSign => k_is)
    (case ve_BadSign => first | rfl | kernel_rfl | decide +kernel)
    (case sa_BadSign => k_is)
    (case eb_BadSign => k_is)
    (case ev_BadSign => k_is)
    (case ty_BadSign => k_is)
    (case kc_BadSign => k_is)
    (case ga_BadSign => k_is)
    (case gg_BadSign => k_is)
    (case nf_BadSign => k_is)
    (case hd_BadSign => k_is)
    (case mc_BadSign => k_is)
    (case si_BadSign => first | rfl | kernel_rfl | decide +kernel)
    (case i_BadSign_init => k_is)
    (case t_BadSign_init => k_is)
    (case l_BadSign_init => k_is)
    (case d_BadSign_init => k_is)
    (case e_BadSign_init => k_is)
    (case v_BadSign_init => rfl)
    (case g_BadSign_init => first | rfl | kernel_rfl | decide +kernel)
    (case h_BadSign_init => k_is)
    (case em_BadSign_BadSign => first | rfl | kernel_rfl | decide +kernel)
    (case a_BadHeight => k_is)
    (case l_BadHeight => k_is)
    (case ve_BadHeight => first | rfl | kernel_rfl | decide +kernel)
    (case sa_BadHeight => k_is)
    (case eb_BadHeight => k_is)
    (case ev_BadHeight => k_is)
    (case ty_BadHeight => k_is)
    (case kc_BadHeight => k_is)
    (case ga_BadHeight => k_is)
    (case gg_BadHeight => k_is)
    (case nf_BadHeight => k_is)
    (case hd_BadHeight => k_is)
    (case mc_BadHeight => k_is)
    (case si_BadHeight => first | rfl | kernel_rfl | decide +kernel)
    (case i_BadHeight_init => k_is)
    (case t_BadHeight_init => k_is)
    (case l_BadHeight_init => k_is)
    (case d_BadHeight_init => k_is)
    (case e_BadHeight_init => k_is)
    (case v_BadHeight_init => rfl)
    (case g_BadHeight_init => first | rfl | kernel_rfl | decide +kernel)
    (case h_BadHeight_init => k_is)
    (case em_BadHeight_BadSign => first | rfl | kernel_rfl | decide +kernel)
    (case em_BadHeight_BadHeight => first | rfl | kernel_rfl | decide +kernel)
    (case a_Uneven => k_is)
    (case o_Uneven => k_exc)
    (case kp_Uneven => k_is)
    (case r_Uneven => k_is)
    (case t_Uneven => k_is)
    (case em_Uneven_BadSign => first | rfl | kernel_rfl | decide +kernel)
    (case em_Uneven_BadHeight => first | rfl | kernel_rfl | decide +kernel)
    (case em_Uneven_Uneven => first | rfl | kernel_rfl | decide +kernel)
    (case em_BadSign_BadHeight => first | rfl | kernel_rfl | decide +kernel)
    (case em_BadSign_Uneven => first | rfl | kernel_rfl | decide +kernel)
    (case em_BadHeight_Uneven => first | rfl | kernel_rfl | decide +kernel)
    (case z_super => k_is)
    (case ops => k_is)
    (case a_Row => k_is)
    (case pg_Row => k_is)
    (case hd_Row => k_is)
    (case po_Row => k_is)
    (case sa_Row => k_is)
    (case mk_Row => k_is)
    (case kc_Row => k_is)
    (case j0_Row => k_is)
    (case j1_Row => k_is)
    (case j2_Row => k_is)
    (case j3_Row => k_is)
    (case j4_Row => first | rfl | kernel_rfl | decide +kernel)
    (case sf_Row => k_is)
    (case fx_Row_obj => k_is)
    (case fx_Row_lst => k_is)
    (case fx_Row_ne => k_is)
    (case fx_Row_kstr => first | rfl | kernel_rfl | decide +kernel)
    (case fx_Row_klst => first | rfl | kernel_rfl | decide +kernel)
    (case nsq_Row => k_is)
    (case na_Row__pairs => k_is)
    (case a_check_text => k_is)
    (case l_check_text => k_is)
    (case d_check_text => k_is)
    (case k_check_text => k_is)
    (case a_decoded => k_is)
    (case l_decoded => k_is)
    (case d_decoded => k_is)
    (case k_decoded => k_is)
    (case a_check_height => k_is)
    (case l_check_height => k_is)
    (case d_check_height => k_is)
    (case k_check_height => k_is)
    (case a_Row_init => k_is)
    (case i_Row_init => k_is)
    (case l_Row_init => k_is)
    (case d_Row_init => k_is)
    (case k_Row_init => k_is)
    (case u_Row_init => k_is)
    (case a_Row_signs => k_is)
    (case pg_Row_signs => k_is)
    (case pt_Row_signs => k_is)
    (case pr_Row_signs => k_is)
    (case l_Row_signs => k_is)
    (case d_Row_signs => k_is)
    (case k_Row_signs => k_is)
    (case a_Row_heights => k_is)
    (case pg_Row_heights => k_is)
    (case pt_Row_heights => k_is)
    (case pr_Row_heights => k_is)
    (case l_Row_heights => k_is)
    (case d_Row_heights => k_is)
    (case k_Row_heights => k_is)
    (case a_Row_len => k_is)
    (case i_Row_len => k_is)
    (case l_Row_len => k_is)
    (case d_Row_len => k_is)
    (case k_Row_len => k_is)
    (case a_Row_iter => k_is)
    (case i_Row_iter => k_is)
    (case l_Row_iter => k_is)
    (case d_Row_iter => k_is)
    (case k_Row_iter => k_is)
    (case a_Row_abs => k_is)
    (case i_Row_abs => k_is)
    (case l_Row_abs => k_is)
    (case d_Row_abs => k_is)
    (case k_Row_abs => k_is)
    (case a__law_pool => k_is)
    (case l__law_pool => k_is)
    (case d__law_pool => k_is)
    (case k__law_pool => k_is)
    (case a__law_pick => k_is)
    (case l__law_pick => k_is)
    (case d__law_pick => k_is)
    (case k__law_pick => k_is)
    (case a__law_is_int => k_is)
    (case l__law_is_int => k_is)
    (case d__law_is_int => k_is)
    (case k__law_is_int => k_is)
    (case a__law_shows => k_is)
    (case l__law_shows => k_is)
    (case d__law_shows => k_is)
    (case k__law_shows => k_is)
    (case a__law_row_of => k_is)
    (case l__law_row_of => k_is)
    (case d__law_row_of => k_is)
    (case k__law_row_of => k_is)
    (case a__law_as_row => k_is)
    (case l__law_as_row => k_is)
    (case d__law_as_row => k_is)
    (case k__law_as_row => k_is)
    (case a__law_odd_sign => k_is)
    (case l__law_odd_sign => k_is)
    (case d__law_odd_sign => k_is)
    (case k__law_odd_sign => k_is)
    (case a__law_is => k_is)
    (case l__law_is => k_is)
    (case d__law_is => k_is)
    (case k__law_is => k_is)
    (case a_Row_eq => k_is)
    (case i_Row_eq => k_is)
    (case l_Row_eq => k_is)
    (case d_Row_eq => k_is)
    (case k_Row_eq => k_is)
    (case a_Row_lt => k_is)
    (case i_Row_lt => k_is)
    (case l_Row_lt => k_is)
    (case d_Row_lt => k_is)
    (case k_Row_lt => k_is)
    (case a_Row_contains => k_is)
    (case i_Row_contains => k_is)
    (case l_Row_contains => k_is)
    (case d_Row_contains => k_is)
    (case k_Row_contains => k_is)
    (case a__law_near => k_is)
    (case l__law_near => k_is)
    (case d__law_near => k_is)
    (case k__law_near => k_is)
    (case a__law_string_of => k_is)
    (case l__law_string_of => k_is)
    (case d__law_string_of => k_is)
    (case k__law_string_of => k_is)
    (case a_law => k_is)
    (case l_law => k_is)
    (case d_law => k_is)
    (case k_law => k_is)
#print axioms PySem.Challenge.cw_risensigns_k03_rows_compared_holds
