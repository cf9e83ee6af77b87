import PyProof.Rows.All
import Wide.All
import OpenK.AllK
import Wide.FinOn
import KE.KExcSuper
import KE.GoesEnum
import HandS.ForMost
import HandS.ForExc
import HandS.ExcInit
import HandS.ExcField
import HandS.TryMany
import HandS.Walk
import HandS.Defaults
import HandS.Property
import HandS.IsInst
import HandS.Codes
import HandS.FStr
import KE.KCallOwn
import KE.KDictZip
import KE.GoesZip
import KE.GoesMore
import HandS.ListItems
import HandS.Zip
import KE.KOpsOwn
import KE.KOwnIter
import HandS.IterNext
import HandS.SortKw
import PyProof.WalkInts
import HandS.More
import HandS.Star
import HandS.ClsMeth
import HandS.TupAny
import HandS.StrMore
import HandS.IterVal
import HandS.SetTxt0
import HandS.Set
import HandS.Strs
import HandS.SetFor
import PyProof.StrWalks
import KE.GoesEnumKw
import HandS.GenList
import HandS.Replace
import HandS.ReplaceList
import HandS.MakeKwOnly
import PySem.Challenge.RW_risensigns_k13_weights_fall
set_option Elab.async false
set_option linter.all false
set_option maxRecDepth 100000
set_option maxHeartbeats 4000000
namespace Rz
open PySem PySem.Spec PyProof.Rows L2

theorem one_lookup {x k : Str} {a c : Addr} (h : List.lookup x [(k, a)] = some c) : c = a := by
  by_cases e : x = k
  · subst e
    simp [List.lookup] at h
    exact h.symm
  · have e2 : (x == k) = false := by simpa using e
    simp [List.lookup, e2] at h

/-- the context of an __init__ that knows its class -/
def cxS (P : Program) (w : World) (K : PySem.W.Frag) (mg : Str → Option Value) (base : Heap) (N : List Str) (qual : Str) (scope : Scope) (f : Addr) (cd : Value) (cc : Addr) (A : Around) (outer : List Env) (s : Shared) (H : Hp) : Cx where
  prog := P
  w := w
  K := K
  mg := mg
  base := base
  A := A.deeper (PySem.W.ksEnv qual scope s.heap.objs.size f cd cc)
  N := N
  s_0 := s
  H_0 := H
  env := PySem.W.ksEnv qual scope s.heap.objs.size f cd cc
  outer := outer
  stack := PySem.W.ksEnv qual scope s.heap.objs.size f cd cc :: outer
  ex := []
  calm := true
  fn := fun _ => false
  pn := []
  xe := fun _ _ => False

/-- what such an __init__ promises: the field is set -/
def spExI (C : Addr) (fld : Str) : Sp := fun vs H Q _ => ∃ (a : Addr) (n : Int), vs = [.ref a, .int n] ∧ n.natAbs.log2 < 1920 ∧ H a = some (exo a C none) ∧
  ∀ dx, H dx = none → dx ≠ a → Q .non (upd (upd H dx (exd dx [(fld, .int n)])) a (exo a C (some dx)))

/-- super().__init__(..) of an exception that has no dict yet -/
theorem call_mw {X : Cx} {pins : List (Addr × Obj)} {σ : L2.St} {H : Hp} {s : Shared} {a C u : Addr} {us : List Value} {Q : Value → Shared → Prop} {E : Value → Shared → Prop} {A : Around} (T : OexC X.K C) (I : Inv X pins σ H s) (e : H a = some (exo a C none)) (hl : us.length ≤ sizeLine)
    (hu : s.heap.get? u = some (PySem.W.kxs_mw "ValueError.__init__" a)) (h : ∀ s', Inv X pins σ H s' → Q .none s') : wpAny (model X.prog X.w) A (call (.ref u) us) Q E s := by
  obtain ⟨nm, q, N, bs, bm, sn, sub, ab, col, dd, k0, k1, k2, k3, k5, hC, hbm⟩ := T.cls
  obtain ⟨t1, ho⟩ := exo_at I.hok e
  have hC' := I.kIn _ _ hC
  have fin : ∀ (h' : Heap) (t2 : Addr), (∀ b o, b ≠ a → s.heap.get? b = some o → h'.get? b = some o) → h'.get? a = some ({ cls := .ref C, dict := none, data := .fields #[.ref t2, .none, .none, .none, .bool false, .none] } : Obj) → Inv X pins σ H { s with heap := h' } := fun h' t2 k hx => by
    have J := I.write (t' := s.toks) (x := a) (e := a) (o := exo a C none) (by rw [e]; exact True.intro) (.inl rfl) k ⟨_, hx⟩ (exo_ok hx)
    have eu : upd H a (exo a C none) = H := by
      funext b
      by_cases hb : b = a
      · rw [hb, upd_same, e]
      · rw [upd_ne hb]
    rw [eu] at J
    exact J
  obtain ⟨hp, g, d, t, os⟩ := s
  refine wpAny_call (codeAny_of_tree ?_)
  show wpAny _ A.in1 (callAny (.ref u) ⟨us, []⟩) _ _ _
  simp only [callAny]
  refine wpAny_bind (wpAny_load hu ?_)
  simp only [PySem.W.kxs_mw, show (Value.type "method-wrapper" == Value.type "method" || Value.type "method-wrapper" == Value.type "builtin_function_or_method" || Value.type "method-wrapper" == Value.type "method-wrapper") = true by decide, if_true]
  refine PySem.W.KFB.if_so (by decide) ?_
  refine wpAny_bind (PySem.W.check_bound_init F.excBase_ValueError.toExcCallFacts hC' ho rfl ?_)
  refine wpAny_bind (wpAny_pure (wpAny_pure ?_))
  refine ⟨plainId_quiet F.excBase_ValueError.init.plain _, codeAny_builtin F.excBase_ValueError.initEntry ?_⟩
  rw [Around.under_plainId F.excBase_ValueError.init.plain _]
  exact PySem.W.exc_init_tree (cls := .ref C) (t0 := t1) (dv := none) (c2 := .none) (c3 := .none) (b4 := .bool false) ho hl fun h' k hx _ => h _ (fin h' _ k hx)

section
variable {P : Program} {w : World} {K : PySem.W.Frag} {mg : Str → Option Value} {base : Heap}
theorem exsup_ok {CX : CXT} {k : Nat} {C f cc cda : Addr} {qual fld : Str} {params : Arguments} {body : List Stmt} {scope : Scope} {oc kV doc pm ct ccl cl : Value} {od an cdd cld : Option Addr} {osl ccs csl : Array (Option Value)} {vs5 : Array Value} {file : Str} {tf : Tok} {ar : Arg}
    {p0 p1 p2 p3 p4 q1 q2 q3 q4 : Pos} {e : Expr}
    (T : OexC K C)
    (lk : K.lookup f = some ⟨oc, od, .func (PySem.W.ksFn "__init__" qual params body scope .none kV doc pm an (.ref cda) ct cc), osl⟩) (hcd : PySem.W.codeIn K (.ref cda) qual = true)
    (hcode : K.lookup cda = some ⟨ccl, cdd, .fields vs5, ccs⟩) (hvs : vs5[2]? = some (.str file tf)) (hfile : ((P.main.file : Str) == file) = true)
    (hcell : K.lookup cc = some ⟨cl, cld, .cell (some (.ref C)), csl⟩)
    (hops : PySem.W.nsIn K cStatics "thirdparty.any" = some none) (hsuper : mg "super" = none)
    (hsin : PySem.W.ks_superIn K C C "__init__" = some (some (.builtin "ValueError.__init__")))
    (hB : PySem.W.subIn K (.ref C) (.type "ValueError") = some true) (hCC : PySem.W.mroIn K C (.ref C) = some true) (noN : PySem.W.findIn K (.ref C) fld = some none)
    (htop : (P.main.scope.names.lookup ("super" : Str)).isSome = false)
    (hbody : body = [.Expr (.Call (.Attribute (.Call (.Name "super" p0) [] [] p1) "__init__" p2) [e] [] p3) p4, .Assign [.Attribute (.Name "self" q1) fld q2] (.Name fld q3) q4])
    (hp : (params.posonlyargs ++ params.args).head? = some ar) (har : ar.arg = "self")
    (hks : scope.names.lookup ("super" : Str) = some .globalImplicit) (hkc : scope.names.lookup ("__class__" : Str) = some .free) (hka : scope.names.lookup ("self" : Str) = some .local) (hkf : scope.names.lookup fld = some .local)
    (hkind : scope.kind = .function) (hco : scope.isCoroutine = false) (hgen : scope.isGenerator = false) (hnc : ∀ x ∈ scope.names, x.2 ≠ .cell) (honly : ∀ x, scope.names.lookup x = some .free → x = "__class__") (hnd : fld ≠ "self")
    (hdb : (fld == ("__debug__" : Str)) = false) (hdc : (fld == ("__classdict__" : Str)) = false)
    (hmsg : ∀ X : Cx, X.N = [("self" : Str), fld] → X.env.scope = scope → ∃ t, PE X e t ∧ ∀ (σ : L2.St) (n : Int) (H : Hp) (Q : VK), σ[1]? = some (some (.int n)) → n.natAbs.log2 < 1920 → (∀ z : Str, Q (.str z) H) → t σ H Q)
    (hst : ∀ (L : Addr), starEach [e] (PySem.W.ksEnv qual scope L f (.ref cda) cc) = (false, eval e (PySem.W.ksEnv qual scope L f (.ref cda) cc)) :: starEach [] (PySem.W.ksEnv qual scope L f (.ref cda) cc))
    {pl : Sem Bool} (hms : ∀ (L : Addr), eval (.Call (.Attribute (.Call (.Name "super" p0) [] [] p1) "__init__" p2) [e] [] p3) (PySem.W.ksEnv qual scope L f (.ref cda) cc) = (do
      let ov ← attributeBase (.Call (.Name "super" p0) [] [] p1) "__init__" (PySem.W.ksEnv qual scope L f (.ref cda) cc) (eval (.Call (.Name "super" p0) [] [] p1) (PySem.W.ksEnv qual scope L f (.ref cda) cc))
      standAt p2.atName
      let (g, first) ← holding [ov] (getMethod ov "__init__" pl)
      callWith p3 g first (backTo p3 (starEach [e] (PySem.W.ksEnv qual scope L f (.ref cda) cc))) [])) :
    FnOk P w K mg base CX (k + 1) f (PySem.W.ksFn "__init__" qual params body scope .none kV doc pm an (.ref cda) ct cc) ["self", fld] (spExI C fld) := by
  refine ⟨fun vs H Q E h => ?_, fun A outer s H args us vs Q E hr e0 hb r hsp => ?_⟩
  · obtain ⟨a, n, rfl, _⟩ := h
    rfl
  obtain ⟨a, n, rfl, hn, ha, hk⟩ := hsp
  obtain ⟨u0, u1, rfl, r0, r1⟩ := vals2 r
  obtain rfl : u0 = Value.ref a := r0
  obtain ⟨tk, rfl⟩ := r1
  have KX : K.In s.heap := e0.mod.kin.keeps fun b o q => (e0.bs b o q).1
  have lim : s.heap.NoLimit := e0.mod.nolimit.keeps fun b o q => (e0.bs b o q).1
  refine PySem.ks_codeAny_call_defAt (body := body) (binds := (["self", fld] : List Str).zip [Value.ref a, Value.int n tk]) hr.depth (KX _ _ lk) rfl lim (PySem.W.codeRec_of KX hcd) rfl hb hnc (fun x hx => ?_) (fun h1 hns hk1 => ?_) hco hgen hkind
  · have hx' : x = (("self" : Str), Value.ref a) ∨ x = (fld, Value.int n tk) := by simpa using hx
    rcases hx' with rfl | rfl
    · exact hka
    · exact hkf
  have hne : (("self" : Str) == fld) = false := by simpa using Ne.symm hnd
  have nocell : ∀ x, scope.names.lookup x ≠ some .cell := fun x hx => hnc _ (PySem.mem_of_lookup hx) rfl
  have cells : ∀ {x c}, (cxS P w K mg base ["self", fld] qual scope f (.ref cda) cc A outer s H).env.cells.lookup x = some c → c = cc := fun h => one_lookup h
  have freeCC : H cc = none := (e0.bs _ _ (e0.mod.kin _ _ hcell)).2
  have I : Inv (cxS P w K mg base ["self", fld] qual scope f (.ref cda) cc A outer s H) [] [some (.ref a), some (.int n)] H { s with heap := h1, toks := s.toks + 2 } := by
    have noA : ∀ b : Addr, b ∉ (cxS P w K mg base ["self", fld] qual scope f (.ref cda) cc A outer s H).ex := fun b z => absurd (show b ∈ ([] : List Addr) from z) (by simp)
    refine ⟨⟨e0.mod, hkind, rfl, rfl, Nat.le_refl _, fun y z c h1 h2 => ?_, fun y hy => ?_, fun y c z _ => ?_, fun _ => hr.hd, Around.frames_deeper e0.frames, .inr ⟨rfl, rfl⟩, fun b z => absurd z (noA b), e0.bs, e0.bsz, fun b _ _ => noA b, fun b z => absurd z (noA b), e0.funs, e0.frf⟩,
      rfl, e0.bare, Un.kept hk1, ⟨_, hns, fun i y v h1 h2 h3 => ?_⟩, fun y c h => ?_, e0.hok.fresh (Nat.le_refl _), fun y c h => ?_, fun p hp => absurd (show p ∈ ([] : List (Addr × Obj)) from hp) (by simp), e0.hok.kept hk1, rfl⟩
    · have k1 : ∀ {y c}, List.lookup y [(("__class__" : Str), cc)] = some c → y = "__class__" := fun {y c} q => by
        by_cases z : y = "__class__"
        · exact z
        · have e2 : (y == ("__class__" : Str)) = false := by simpa using z
          simp [List.lookup, e2] at q
      rw [k1 h1, k1 h2]
    · rcases hy with hy | hy
      · exact absurd hy (nocell y)
      · have e1 := honly y hy
        subst e1
        exact ⟨cc, rfl⟩
    · exact Bool.noConfusion (show false = true from z)
    · refine match i, h1, h2 with
        | 0, h1, h2 => ?_
        | 1, h1, h2 => ?_
        | i + 2, h1, h2 => ?_
      · have e1 : ("self" : Str) = y := Option.some.inj h1
        have e2 : V.ref a = v := Option.some.inj (Option.some.inj h2)
        subst e1
        subst e2
        exact ⟨.ref a, rfl, .inl ⟨hka, by simp [List.lookup, hne]⟩⟩
      · have e1 : fld = y := Option.some.inj h1
        have e2 : V.int n = v := Option.some.inj (Option.some.inj h2)
        subst e1
        subst e2
        exact ⟨.int n tk, ⟨tk, rfl⟩, .inl ⟨hkf, by simp [List.lookup]⟩⟩
      · exact absurd h1 (by simp [cxS])
    · rw [cells h]
      exact ⟨_, _, hk1 _ _ (KX _ _ hcell), rfl⟩
    · rw [cells h]
      exact freeCC
  subst hbody
  have KX1 : K.In h1 := KX.keeps hk1
  obtain ⟨nm, q, N, bs, bm, sn, sub, ab, col, dd, k0, k1, k2, k3, k5, hC, hbm⟩ := id T.cls
  have hcl : PySem.W.clsIn K C = some { name := nm, bases := bs, mro := .ref C :: bm, ns := N, qualname := q, hasDict := true, slotNames := sn, subclasses := sub, abstract := ab, collection := col, hasDel := false } := by unfold PySem.W.clsIn; rw [hC] <;> rfl
  obtain ⟨t1, ho⟩ := exo_at I.hok ha
  obtain ⟨mb, b1, b2⟩ := I.mod.blt
  obtain ⟨hh, g, d, t0, os⟩ := s
  have hac : a ≠ C := fun z => by
    have z1 := KX1 _ _ hC
    rw [← z] at z1
    have z2 := z1.symm.trans ho
    cases z2
  refine PySem.ks_wpAt_execs_cons (PySem.ks_wpAt_Expr_any (PySem.ks_wpAt_MethodCall (pl := pl) ?_ (hms _)) I.quiet rfl)
  refine PySem.ks_wpAt_super_base hks hkc (by decide) rfl (KX1 _ _ lk) rfl hp rfl (KX1 _ _ hcode) rfl hvs hfile htop ?_
  refine PySem.W.ks_loadName_global hkind hks (Calls.loadGlobal_builtin (I.mod.glob.keeps I.bk) hsuper (b1.keeps I.bk) ((b2 "super" (by decide)).trans (by decide +kernel : bootBuiltins "super" = some (.type "super"))) ⟨rfl, ?_⟩)
  refine wpAny_loadName_free hkind hkc rfl ⟨_, KX1 _ _ hcell, rfl⟩ ?_
  rw [har]
  refine wpAny_loadName_local (v := .ref a) hkind hka hns (by simp [List.lookup, hne]) ?_
  refine PySem.ks_wpAny_isType_cls (KX1 _ _ hC) rfl ⟨rfl, ?_⟩
  refine PySem.ks_wpAny_call_super (KX1 _ _ hC) rfl ho rfl (fun c z => by cases z) (PySem.W.looks_mroIn KX1 hCC) (fun h2 e2 kk2 => ?_)
  have I2 := I.kept (t' := t0 + 2) kk2
  have KX2 := KX1.keeps kk2
  have ho2 := kk2 _ _ ho
  have hI : PySem.W.Looks (model P w) h2 (isInstance (.ref a) (.type "ValueError")) true :=
    (PySem.W.InstAt.type (M := model P w) (ox := { cls := .ref C, data := .fields #[.ref t1, .none, .none, .none, .bool false, .none] }) (od := none) ⟨ho2, rfl, rfl, trivial⟩).andThen (PySem.W.looks_subIn KX2 hB)
  have hsin2 : PySem.W.alongIn K "__init__" (((Value.ref C :: bm).dropWhile (· != .ref C)).drop 1) = some (some (.builtin "ValueError.__init__")) := by
    unfold PySem.W.ks_superIn at hsin
    rw [hcl] at hsin
    exact hsin
  refine PySem.W.kxs_getMethod PySem.W.kxs_ValueError e2 (PySem.W.looks_opaque KX2 hops) (l₀ := .ref C :: bm) ?_ rfl KX2 hsin2 hI hac (by decide) ?_
  · exact fun A Q E s k q => wpAny_bind ((PySem.W.looks_clsIn KX2 hcl) A _ E s k (wpAny_pure q))
  have kk3 : ∀ b o, h2.get? b = some o → (h2.push (PySem.W.kxs_mw "ValueError.__init__" a)).get? b = some o := fun b o q => Heap.get?_push_of_some _ q
  have I3 := I2.kept (t' := t0 + 2 + 1) kk3
  have hu : (h2.push (PySem.W.kxs_mw "ValueError.__init__" a)).get? h2.objs.size = some (PySem.W.kxs_mw "ValueError.__init__" a) := Heap.get?_push_at rfl rfl
  have I4 := I3.pins_of (pins' := [(h2.objs.size, PySem.W.kxs_mw "ValueError.__init__" a)]) (fun p hp => by
    obtain rfl : p = (h2.objs.size, PySem.W.kxs_mw "ValueError.__init__" a) := by simpa using hp
    refine ⟨hu, I2.hok.fresh (Nat.le_refl _), fun z => ?_, I2.nofs (Nat.le_refl _), fun v z => by cases z⟩
    have z1 := I2.lt
    rw [← z] at z1
    exact Nat.lt_irrefl _ z1)
  obtain ⟨te, pe, rd⟩ := hmsg (cxS P w K mg base ["self", fld] qual scope f (.ref cda) cc A outer ⟨hh, g, d, t0, os⟩ H) rfl rfl
  have pa := pa_cons pe pa_nil (hst _)
  have e3 : backTo p3 (starEach [e] (PySem.W.ksEnv qual scope hh.objs.size f (.ref cda) cc)) = (false, eval e (PySem.W.ksEnv qual scope hh.objs.size f (.ref cda) cc)) :: backTo p3 (starEach [] (PySem.W.ksEnv qual scope hh.objs.size f (.ref cda) cc)) := by rw [hst]; rfl
  refine PySem.W.kxs_callWith (i := "ValueError.__init__") (x := a) (by show (backTo p3 (starEach [e] (PySem.W.ksEnv qual scope hh.objs.size f (.ref cda) cc))).any (·.1) = false; rw [e3]; rfl) ?_
  show wpAny _ _ (evalArgs _ true (backTo p3 (starEach [e] (PySem.W.ksEnv qual scope hh.objs.size f (.ref cda) cc))) []) _ _ _
  rw [e3]
  refine Calls.evalArgs_plain ?_
  rw [← e3]
  refine wpAny_mono (pa.run p3 _ _ _ _ (fun vs H' => (∃ z, vs = [V.str z]) ∧ H' = H) I4 (rd _ n H _ rfl hn fun z => ⟨⟨z, rfl⟩, rfl⟩)) (fun us s5 hu5 => ?_) fun _ _ z => z.elim
  obtain ⟨vs, H', I5, r5, ⟨z, rfl⟩, rfl⟩ := hu5
  have hu6 := (I5.pin (h2.objs.size, PySem.W.kxs_mw "ValueError.__init__" a) (by simp [cxS])).1
  refine ⟨hu6, ?_⟩
  obtain ⟨uz, rfl, _⟩ := vals1 r5
  refine call_mw T I5 ha (by show 1 ≤ sizeLine; decide) hu6 fun s6 I6 => ?_
  show PySem.wpAt _ _ _ (execs _ _) _ _ _
  refine wpAt_of_wpAny ?_
  have J6 := I6.pins_of (pins' := []) (fun p hp => by cases hp)
  have ps : PSs (cxS P w K mg base ["self", fld] qual scope f (.ref cda) cc A outer ⟨hh, g, d, t0, os⟩ H') [.Assign [.Attribute (.Name "self" q1) fld q2] (.Name fld q3) q4] (tOst K fld (tVar 0) (tVar 1)) :=
    pss_one (ps_ost (pe_var rfl (.inl hka)) (pe_var rfl (.inl hkf) hdb hdc) rfl)
  refine wpAny_mono (ps.run [] s6 _ H' { nx := fun _ H2 => Q .non H2, rt := fun _ _ => False } J6 ⟨_, rfl, _, rfl, a, C, rfl, T, noN, .inl ⟨ha, hk⟩⟩) (fun fl s7 hs => ?_) fun _ _ z => z.elim
  cases fl with
  | next =>
    obtain ⟨σ7, H7, J, q7⟩ := hs
    exact ⟨.non, H7, J.os, J.bare, J.base, J.hok, rfl, q7⟩
  | ret u =>
    obtain ⟨_, _, _, _, _, q7⟩ := hs
    exact q7.elim
  | brk =>
    obtain ⟨_, _, _, q7⟩ := hs
    exact q7.elim
  | cont =>
    obtain ⟨_, _, _, q7⟩ := hs
    exact q7.elim
end
/-- what stands of such an __init__ behind the top -/
structure ExInit (P : Program) (K : PySem.W.Frag) (mg : Str → Option Value) (C f : Addr) (fd : FuncData) (fld : Str) (st : Stmt) : Prop where
  ex : ∃ (qual : Str) (oc kV doc pm ct ccl cl : Value) (od an cdd cld : Option Addr) (osl ccs csl : Array (Option Value)) (vs5 : Array Value) (file : Str) (tf : Tok) (cc cda : Addr),
    fd = PySem.W.ksFn "__init__" qual (defArgs st) (defBody st) (defScope st) .none kV doc pm an (.ref cda) ct cc ∧ K.lookup f = some ⟨oc, od, .func fd, osl⟩ ∧ PySem.W.codeIn K (.ref cda) qual = true ∧
    K.lookup cda = some ⟨ccl, cdd, .fields vs5, ccs⟩ ∧ vs5[2]? = some (.str file tf) ∧ ((P.main.file : Str) == file) = true ∧ K.lookup cc = some ⟨cl, cld, .cell (some (.ref C)), csl⟩
  ops : PySem.W.nsIn K cStatics "thirdparty.any" = some none
  nsup : mg "super" = none
  sin : PySem.W.ks_superIn K C C "__init__" = some (some (.builtin "ValueError.__init__"))
  sub : PySem.W.subIn K (.ref C) (.type "ValueError") = some true
  mro : PySem.W.mroIn K C (.ref C) = some true
  noN : PySem.W.findIn K (.ref C) fld = some none
  top : (P.main.scope.names.lookup ("super" : Str)).isSome = false
/-- .. and what its instances are read by -/
structure ExF (K : PySem.W.Frag) (C : Addr) (fld : Str) : Prop where
  xf : XfC K C
  noN : PySem.W.findIn K (.ref C) fld = some none
end Rz

namespace Rz
open PySem PySem.Spec PyProof.Rows L2
theorem str_int_len {n : Int} (h : n.natAbs.log2 < 1920) : (toString n : Str).length ≤ 1921 := PyProof.Rows.int_text_len_1921 h
theorem exinit_ok {P : Program} {w : World} {K : PySem.W.Frag} {mg : Str → Option Value} {base : Heap} {CX : CXT} {C f : Addr} {fd : FuncData} {fld : Str} {st : Stmt} {ar : Arg} {p0 p1 p2 p3 p4 q1 q2 q3 q4 : Pos} {e : Expr}
    (T : OexC K C) (I : ExInit P K mg C f fd fld st)
    (hbody : defBody st = [.Expr (.Call (.Attribute (.Call (.Name "super" p0) [] [] p1) "__init__" p2) [e] [] p3) p4, .Assign [.Attribute (.Name "self" q1) fld q2] (.Name fld q3) q4])
    (hp : ((defArgs st).posonlyargs ++ (defArgs st).args).head? = some ar) (har : ar.arg = "self")
    (hks : (defScope st).names.lookup ("super" : Str) = some .globalImplicit) (hkc : (defScope st).names.lookup ("__class__" : Str) = some .free) (hka : (defScope st).names.lookup ("self" : Str) = some .local) (hkf : (defScope st).names.lookup fld = some .local)
    (hkind : (defScope st).kind = .function) (hco : (defScope st).isCoroutine = false) (hgen : (defScope st).isGenerator = false)
    (hnc : ((defScope st).names.all fun x => decide (x.2 ≠ .cell)) = true) (hfr : ((defScope st).names.all fun x => decide (x.2 = .free → x.1 = "__class__")) = true) (hnd : fld ≠ "self")
    (hdb : (fld == ("__debug__" : Str)) = false) (hdc : (fld == ("__classdict__" : Str)) = false)
    (hmsg : ∀ X : Cx, X.N = [("self" : Str), fld] → X.env.scope = defScope st → ∃ t, PE X e t ∧ ∀ (σ : L2.St) (n : Int) (H : Hp) (Q : VK), σ[1]? = some (some (.int n)) → n.natAbs.log2 < 1920 → (∀ z : Str, Q (.str z) H) → t σ H Q)
    (hst : ∀ (qual : Str) (L cda cc : Addr), starEach [e] (PySem.W.ksEnv qual (defScope st) L f (.ref cda) cc) = (false, eval e (PySem.W.ksEnv qual (defScope st) L f (.ref cda) cc)) :: starEach [] (PySem.W.ksEnv qual (defScope st) L f (.ref cda) cc))
    {pl : Sem Bool} (hms : ∀ (qual : Str) (L cda cc : Addr), eval (.Call (.Attribute (.Call (.Name "super" p0) [] [] p1) "__init__" p2) [e] [] p3) (PySem.W.ksEnv qual (defScope st) L f (.ref cda) cc) = (do
      let ov ← attributeBase (.Call (.Name "super" p0) [] [] p1) "__init__" (PySem.W.ksEnv qual (defScope st) L f (.ref cda) cc) (eval (.Call (.Name "super" p0) [] [] p1) (PySem.W.ksEnv qual (defScope st) L f (.ref cda) cc))
      standAt p2.atName
      let (g, first) ← holding [ov] (getMethod ov "__init__" pl)
      callWith p3 g first (backTo p3 (starEach [e] (PySem.W.ksEnv qual (defScope st) L f (.ref cda) cc))) [])) :
    FnOk P w K mg base CX 1 f fd ["self", fld] (spExI C fld) := by
  obtain ⟨qual, oc, kV, doc, pm, ct, ccl, cl, od, an, cdd, cld, osl, ccs, csl, vs5, file, tf, cc, cda, rfl, lk, hcd, hcode, hvs, hfile, hcell⟩ := I.ex
  refine exsup_ok (k := 0) T lk hcd hcode hvs hfile hcell I.ops I.nsup I.sin I.sub I.mro I.noN I.top hbody hp har hks hkc hka hkf hkind hco hgen (fun x hx => ?_) (fun x hx => ?_) hnd hdb hdc hmsg (fun L => hst qual L cda cc) (fun L => hms qual L cda cc)
  · exact of_decide_eq_true (List.all_eq_true.mp hnc x hx)
  · exact of_decide_eq_true (List.all_eq_true.mp hfr _ (PySem.mem_of_lookup hx)) rfl
theorem msg_ok2 {sc : Scope} {fld c : Str} {p1 p2 p3 p4 : Pos} {j : Nat} (hv : sc.names.lookup fld = some .local) (hd : (fld == ("__debug__" : Str)) = false) (hdc : (fld == ("__classdict__" : Str)) = false) (hc : c.length ≤ 1000) (X : Cx) (hN : X.N = [("self" : Str), fld]) (hs : X.env.scope = sc) :
    ∃ t, PE X (.JoinedStr [.Constant (.str c) j p1, .FormattedValue (.Name fld p2) (-1) none p3] p4) t ∧ ∀ (σ : L2.St) (n : Int) (H : Hp) (Q : VK), σ[1]? = some (some (.int n)) → n.natAbs.log2 < 1920 → (∀ z : Str, Q (.str z) H) → t σ H Q := by
  refine ⟨_, pe_joined (.cons pe_str (.cons (pe_fmt (pe_var (i := 1) (by rw [hN]; rfl) (.inl (by rw [hs]; exact hv)) hd hdc)) .nil)), fun σ n H Q h1 hn hq => ?_⟩
  have l1 := str_int_len hn
  refine ⟨c, rfl, ?_, ?_⟩
  · rw [Str.length_append, sizeLine_eq]
    show 0 + c.length ≤ _
    omega
  · refine ⟨_, h1, .inr ⟨n, rfl, hn, _, rfl, ?_, hq _⟩⟩
    rw [Str.length_append, Str.length_append, sizeLine_eq]
    show 0 + c.length + _ ≤ _
    omega
theorem msg_ok3 {sc : Scope} {fld c c2 : Str} {p1 p2 p3 p4 p5 : Pos} {j j2 : Nat} (hv : sc.names.lookup fld = some .local) (hd : (fld == ("__debug__" : Str)) = false) (hdc : (fld == ("__classdict__" : Str)) = false) (hc : c.length ≤ 1000) (hc2 : c2.length ≤ 1000) (X : Cx) (hN : X.N = [("self" : Str), fld]) (hs : X.env.scope = sc) :
    ∃ t, PE X (.JoinedStr [.Constant (.str c) j p1, .FormattedValue (.Name fld p2) (-1) none p3, .Constant (.str c2) j2 p5] p4) t ∧ ∀ (σ : L2.St) (n : Int) (H : Hp) (Q : VK), σ[1]? = some (some (.int n)) → n.natAbs.log2 < 1920 → (∀ z : Str, Q (.str z) H) → t σ H Q := by
  refine ⟨_, pe_joined (.cons pe_str (.cons (pe_fmt (pe_var (i := 1) (by rw [hN]; rfl) (.inl (by rw [hs]; exact hv)) hd hdc)) (.cons pe_str .nil))), fun σ n H Q h1 hn hq => ?_⟩
  have l1 := str_int_len hn
  refine ⟨c, rfl, ?_, ?_⟩
  · rw [Str.length_append, sizeLine_eq]
    show 0 + c.length ≤ _
    omega
  · refine ⟨_, h1, .inr ⟨n, rfl, hn, _, rfl, ?_, c2, rfl, ?_, hq _⟩⟩
    · rw [Str.length_append, Str.length_append, sizeLine_eq]
      show 0 + c.length + _ ≤ _
      omega
    · rw [Str.length_append, Str.length_append, Str.length_append, sizeLine_eq]
      show 0 + c.length + _ + _ ≤ _
      omega
end Rz

namespace Rz
open PySem PySem.Spec PyProof.Rows L2

/-! ### enumerate(text) -/
def Ites (x : Str) : It :=
  ⟨fun i _ => i < x.cps.size, fun i H v H' => ∃ T c, v = .ref T ∧ H T = none ∧ H' = upd H T (.tup [.int (i : Nat), .str ⟨#[c]⟩]) ∧ x.cps[i]? = some c, fun i _ => i = x.cps.size⟩
theorem turn_enumS {P : Program} {w : World} {K : PySem.W.Frag} {elts : List Expr} {kk : Nat} {tpos : Pos} (e it : Addr) (x : Str) (t : Tok) :
    Turn P w K (.Tuple elts kk tpos) (Ites x) [e, it] e (fun i h => (∃ old, IsEnum h e it ((i : Nat) : Int) old) ∧ h.IsStrIter it (strIterType x) x t i ∧ e ≠ it) where
  mem := by simp
  obj := fun i h st b hb => by
    obtain ⟨⟨old, he⟩, ⟨o, ho, hc, hd⟩, _⟩ := st
    have z2 : b = e ∨ b = it := by simpa using hb
    rcases z2 with rfl | rfl
    · exact ⟨_, he, fun v q => nomatch q⟩
    · exact ⟨o, ho, fun v q => by rw [hd] at q; cases q⟩
  keep := fun i h h' st k => by
    obtain ⟨⟨old, he⟩, ⟨o, ho, r⟩, hne⟩ := st
    exact ⟨⟨old, k e (by simp) _ he⟩, ⟨o, k it (by simp) _ ho, r⟩, hne⟩
  item := by
    intro X hP hw hK hc i pins s σ H E I hf st hg
    subst hP hw hK
    obtain ⟨⟨old, he⟩, hit, hne⟩ := st
    have hel : e < s.heap.objs.size := Heap.lt_size he
    have hil : it < s.heap.objs.size := by obtain ⟨_, q, _⟩ := hit; exact Heap.lt_size q
    have D := Draws.text (prog := X.prog) (w := X.w) (A := X.A.in1) (I.ok.hd hc) it x t
    refine wpAny_pyNext_enum_itemD D he hit hg hne (by simpa using hne) fun u h' tk hu ho hit2 hT hsz hk => ?_
    obtain ⟨c, tc, hcx, rfl⟩ := hu
    refine ⟨_, rfl, wpAny_letOwnedTupleGo_enum (s := { s with heap := h', toks := tk + 1 }) ho fun h2 he2 sb => ?_⟩
    have hT2 : h2.get? s.heap.objs.size = some { cls := .type "tuple", data := .seq #[.int i tk, .str ⟨#[c]⟩ tc] } := (sb.2 _ (Nat.ne_of_gt hel)).trans hT
    have new : ObjOk X.prog X.w (upd H s.heap.objs.size (.tup [.int (i : Nat), .str ⟨#[c]⟩])) h2 s.heap.objs.size (.tup [.int (i : Nat), .str ⟨#[c]⟩]) :=
      ⟨by show 2 ≤ sizeLine; decide, [.int i tk, .str ⟨#[c]⟩ tc], .cons ⟨_, rfl⟩ (.cons ⟨_, rfl⟩ .nil), ⟨_, hT2, rfl, _, rfl⟩⟩
    have J : Inv X pins σ (upd H s.heap.objs.size (.tup [.int (i : Nat), .str ⟨#[c]⟩])) { s with heap := h2, toks := tk + 1 } :=
      I.turnedNew (t' := tk + 1) (ch := [e, it]) (fun b ob hb q => (sb.2 b (fun z => hb (by simp [z]))).trans (hk b ob (fun z => hb (by simp [z])) (fun z => hb (by simp [z])) q)) hf (Nat.le_refl _) new
    obtain ⟨oi, e3, r3⟩ := hit2
    refine ⟨.ref s.heap.objs.size, _, J, rfl, ⟨_, c, rfl, I.hok.fresh (Nat.le_refl _), rfl, hcx⟩, ⟨⟨.str ⟨#[c]⟩ tc, ?_⟩, ⟨oi, (sb.2 it (Ne.symm hne)).trans e3, r3⟩, hne⟩, fun b hb => ?_⟩
    · have e1 : ((i + 1 : Nat) : Int) = (i : Int) + 1 := by omega
      rw [e1]
      exact he2
    · have hbl : b < s.heap.objs.size := by
        have z2 : b = e ∨ b = it := by simpa using hb
        rcases z2 with rfl | rfl
        · exact hel
        · exact hil
      rw [upd_ne (Nat.ne_of_lt hbl)]
      exact (hf b hb).1
  done := by
    intro X hP hw hK hc i pins s σ H E I hf st hg
    subst hP hw hK
    obtain ⟨⟨old, he⟩, hit, hne⟩ := st
    obtain ⟨f0, f1, f2, f3, f4, f5⟩ := hf it (by simp)
    have D := Draws.text (prog := X.prog) (w := X.w) (A := X.A.in1) (I.ok.hd hc) it x t
    have hg' : i = x.cps.size := hg
    subst hg'
    exact wpAny_pyNext_enum_endD D he hit fun h' eb => ⟨rfl, I.turned (t' := s.toks) (fun b o hb q => eb b o hb q) f0 f1 f3 f4 f5⟩
  self := fun A i s Q E st h => let ⟨⟨_, he⟩, _⟩ := st; wpAny_pyIter_enum he h
theorem walk_enumS {z : Str} : Walk (Ites z) z.cps.size (fun _ => True) (fun i H v H' => ∃ T c, v = .ref T ∧ H T = none ∧ H' = upd H T (.tup [.int (i : Nat), .str ⟨#[c]⟩]) ∧ z.cps.toList[i]? = some c) :=
  ⟨fun _ _ hi _ => hi, fun _ _ => rfl, fun i H x H' _ _ y => by
    obtain ⟨T, c, e1, e2, e3, e4⟩ := y
    exact ⟨T, c, e1, e2, e3, by rw [Array.getElem?_toList]; exact e4⟩⟩
def iEnumS (ta : TA) : TI := fun σ H R => ta σ H fun vs H1 => ∃ x, vs = [.str x] ∧ R (Ites x) H1
theorem pi_enumS {X : Cx} {e : Expr} {ta : TA} {p pos tpos : Pos} {elts : List Expr} {kk : Nat} (hg : Gl X "enumerate") (hm : X.mg "enumerate" = none) (ha : PA X [e] ta) (hs : starEach [e] X.env = [(false, eval e X.env)] := by rfl) :
    PI X (.Tuple elts kk tpos) (.Call (.Name "enumerate" p) [e] [] pos) (iEnumS ta) := by
  refine ⟨fun pins s σ H R I h => ?_⟩
  refine Call_ (ld_blt I hg hm boot_enumerate (PyProof.Rows.callWith_type1 (thn (ha.run pos pins s σ H _ I h) fun us s1 ⟨vs, H1, I1, r1, q1⟩ => ?_) hs rfl))
  obtain ⟨x, rfl, q⟩ := q1
  obtain ⟨u, rfl, ru⟩ := vals1 r1
  obtain ⟨t, rfl⟩ := ru
  refine call_enumerate_str fun h' he hit hsz hk => wpAny_pyIter_enum he ?_
  have J : Inv X pins σ H1 { s1 with heap := h' } := I1.kept (t' := s1.toks) hk
  refine ⟨s1.heap.objs.size + 1, [s1.heap.objs.size + 1, s1.heap.objs.size], _, _, H1, rfl, J, turn_enumS (s1.heap.objs.size + 1) s1.heap.objs.size x t, ⟨⟨.none, he⟩, hit, Nat.succ_ne_self _⟩, fun b hb => ?_, q⟩
  have hle : s1.heap.objs.size ≤ b := by
    have z2 : b = s1.heap.objs.size + 1 ∨ b = s1.heap.objs.size := by simpa using hb
    rcases z2 with rfl | rfl
    · exact Nat.le_add_right _ _
    · exact Nat.le_refl _
  exact I1.fpOk hle (I1.hok.fresh hle)
end Rz

namespace Rz
open PySem PySem.Spec PyProof.Rows L2

abbrev SuR := Addr → Value → Option Addr → TS
/-- a clause: its class, the slot of its name if it has one, its suite -/
abbrev Cls1 := Value × Option Nat × SuR
def endM (i : Option Nat) (D : Ends) : Ends := match i with
  | none => D
  | some i => { nx := fun σ H => D.nx (σ.set i none) H, rt := D.rt, bk := fun σ H => D.bk (σ.set i none) H, ct := fun σ H => D.ct (σ.set i none) H }
def stM (i : Option Nat) (a : Addr) (σ : L2.St) : L2.St := match i with
  | none => σ
  | some i => σ.set i (some (.ref a))
def wMix (K : PySem.W.Frag) (Wout : WX) (D : Ends) : List Cls1 → WX
  | [] => Wout
  | (c, i, ts) :: r => fun cls d σ H => ∃ b, PySem.W.exmOne K cls c = some b ∧ (b = true → ∀ a, H a = none → ts a cls d (endM i D) (stM i a σ) H) ∧ (b = false → wMix K Wout D r cls d σ H)
inductive HdsM (X : Cx) : List ExceptHandler → List Cls1 → Prop
  | nil : HdsM X [] []
  | plain {x : Str} {c : Value} {ts : SuR} {b0 : Stmt} {suite : List Stmt} {np p2 : Pos} {hds : List ExceptHandler} {l : List Cls1} (hc : Names X x c)
      (su : ∀ (a : Addr) (oe : Obj) (cls : Value) (d : Option Addr) (pn : List (Addr × Obj)), Zc cls d oe → (∃ vs, oe.data = .fields vs) → PSs (X.suite a ((a, oe) :: pn)) (b0 :: suite) (ts a cls d))
      (r : HdsM X hds l) : HdsM X (.ExceptHandler (some (.Name x np)) none (b0 :: suite) p2 :: hds) ((c, none, ts) :: l)
  | named {x n : Str} {i : Nat} {c : Value} {ts : SuR} {b0 : Stmt} {suite : List Stmt} {np p2 : Pos} {hds : List ExceptHandler} {l : List Cls1} (hN : X.N.Nodup) (hi : X.N[i]? = some n) (hl : X.env.kindOf n = some .local) (hc : Names X x c)
      (su : ∀ (a : Addr) (oe : Obj) (cls : Value) (d : Option Addr) (pn : List (Addr × Obj)), Zc cls d oe → (∃ vs, oe.data = .fields vs) → PSs (X.suite a ((a, oe) :: pn)) (b0 :: suite) (ts a cls d))
      (r : HdsM X hds l) : HdsM X (.ExceptHandler (some (.Name x np)) (some n) (b0 :: suite) p2 :: hds) ((c, some i, ts) :: l)
section
variable {X : Cx} {body : List Stmt} {h0 : ExceptHandler} {hds : List ExceptHandler} {l : List Cls1} {pos : Pos} {tb : WX → TS} {Wout : WX}
theorem ps_try_mix (hs : X.stack = X.env :: X.outer) (hf : X.env.frame = some X.env.locals) (tk : Takes X Wout)
    (hb : ∀ (W : WX) (pn : List (Addr × Obj)) (xe : Value → Shared → Prop), Takes (X.tr pn xe) W → PassesOwn (model X.prog X.w) X.A X.env xe → PSs (X.tr pn xe) body (tb W))
    (hh : HdsM X (h0 :: hds) l) : PS X (.Try body (h0 :: hds) [] [] pos) (fun D σ H => tb (wMix X.K Wout D l) D σ H) := by
  refine ⟨fun pins s σ H D I h => ?_⟩
  have ok := I.ok
  have fr0 : X.A.frames = some (X.env :: X.outer) := ok.frames.trans (by rw [hs])
  refine wpAny_Try_except ?_
  refine wpAny_mono ((hb (wMix X.K Wout D l) (X.pn ++ pins) (fun e sa => wpAny (model X.prog X.w) X.A (noteFrame e X.env) (fun _ sb => wpAny (model X.prog X.w) X.A (setFlight e none) (fun _ sc =>
    wpAny (model X.prog X.w) X.A (handleBy e X.env (h0 :: hds)) (SP X pins D) X.xe sc) X.xe sb) X.xe sa) (fun u s2 air => ?_) PassesOwn.looking).run [] s σ H D (I.toTry _) h) (fun f s1 hsp => ?_) (fun e s1 he => he)
  · obtain ⟨a, B, sI, pins2, σ2, H2, cls, d, rfl, J0, nb, up, sky, na, os, ag, w⟩ := air
    have J := J0.ofTry ok
    rw [hs] at sky
    show wpAny (model X.prog X.w) X.A (noteFrame (.ref a) X.env) _ _ _
    refine Sky.land Zc.steady fr0 hf sky fun g3 fl3 up3 => ?_
    have J3 : Inv X pins σ2 H2 { s2 with heap := g3 } := J.landed nb fl3.1 (up.trans up3) os ag
    obtain ⟨o3, vs3, e3, z3, d3⟩ := fl3.there
    have nfr : a ∉ frs (X.env :: X.outer) := fun hm => by
      obtain ⟨_, o', e', hnf⟩ := fl3.2.2.1.mem hm
      rw [e3] at e'
      cases e'
      exact hnf _ d3
    have nL : a ≠ X.env.locals := fun z => nfr (List.mem_filterMap.mpr ⟨X.env, List.mem_cons_self, by rw [hf, z]⟩)
    have nF : a ∉ X.fs := fun hm => by
      obtain ⟨e, he, q⟩ := List.mem_filterMap.mp hm
      exact nfr (List.mem_filterMap.mpr ⟨e, List.mem_cons_of_mem _ he, q⟩)
    have S3 := J3.suite e3 d3 na nL nF
    have look : ∀ {x : Str} {np : Pos} {c : Value} {Q : Value → Shared → Prop} {E : Value → Shared → Prop}, Names X x c → Q c { s2 with heap := g3 } → wpAny (model X.prog X.w) (X.A.mark (some (.ref a))) (eval (.Name x np) X.env) Q E { s2 with heap := g3 } := fun {x np c Q E} hc q => by
      obtain ⟨hg, hdbg, hm | ⟨hm, hv, hnn⟩⟩ := hc
      · exact ld_glob (X := X.suite a ((a, o3) :: (X.pn ++ pins))) S3 hg hm q hdbg
      · exact ld_blt (X := X.suite a ((a, o3) :: (X.pn ++ pins))) S3 hg hm hv q hnn hdbg
    have LT : PySem.W.Looks (model X.prog X.w) g3 (typeOf (.ref a)) cls := fun A Q E s k q => wpAny_typeOf_ref (k _ _ e3) (by rw [z3.1]; exact q)
    have go : ∀ {hds2 : List ExceptHandler} {l2 : List Cls1}, HdsM X hds2 l2 → wMix X.K Wout D l2 cls d σ2 H2 →
        wpAny (model X.prog X.w) X.A (handleBy (.ref a) X.env hds2) (SP X pins D) X.xe { s2 with heap := g3 } := by
      intro hds2 l2 hk
      induction hk with
      | nil =>
        intro w
        refine wpAny_handleBy_nil ?_
        obtain ⟨k1, k2, k3, oe, vs, T, oT, tr, he, hz, hd, h1, hr⟩ := id fl3
        unfold PySem.passOn
        refine wpAny_bind (wpAny_field he hd h1 ?_)
        rw [if_neg (show ¬ ((Value.ref T == Value.none) = true) from by simp)]
        have fin : wpAny (model X.prog X.w) X.A (setFlight (.ref a) X.env.frame) (fun _ s4 => wpAny (model X.prog X.w) X.A (throw (.ref a) : Sem Flow) (SP X pins D) X.xe s4) X.xe { s2 with heap := g3 } := by
          rw [hf]
          refine HandSPX.setFlight_upZ fl3 fun g4 hh4 up4 => wpAny_throw (tk _ _ ?_)
          exact ⟨a, B, sI, pins, σ2, H2, cls, d, rfl, J, nb, (up.trans up3).trans up4, .inr (.inr (by rw [hs]; exact hh4)), na, os, ag, w⟩
        first
          | exact wpAny_bind (wpAny_pure (wpAny_bind fin))
          | exact wpAny_bind fin
      | @plain x c ts b0 suite np p2 hds3 l3 hc su r ih =>
        intro w
        obtain ⟨b, hb1, hyes, hno⟩ := w
        refine wpAny_handleBy_cons (codeAny_handlers_test ?_) (by intro q; cases q)
        refine look hc ((PySem.W.exm_one (M := model X.prog X.w) J3.kIn LT hb1).here ?_)
        cases b with
        | true =>
          refine codeAny_handlers_suite ?_
          refine HandSPX.lands_againZ fl3 fun g4 fl4 up4 => ?_
          have J4 : Inv X pins σ2 H2 { s2 with heap := g4 } := J.landed nb fl4.1 ((up.trans up3).trans up4) os ag
          obtain ⟨o4, vs4, e4, z4, d4⟩ := fl4.there
          refine wpAny_mono ((su a o4 cls d (X.pn ++ pins) z4 ⟨_, d4⟩).run [] _ _ H2 _ (J4.suite e4 d4 na nL nF) (hyes rfl a na)) (fun f s6 hsp => ?_) (fun _ _ z => False.elim z)
          cases f with
          | next => obtain ⟨_, _, S6, q6⟩ := hsp; exact ⟨_, _, S6.unsuite ok, q6⟩
          | brk => obtain ⟨_, _, S6, q6⟩ := hsp; exact ⟨_, _, S6.unsuite ok, q6⟩
          | cont => obtain ⟨_, _, S6, q6⟩ := hsp; exact ⟨_, _, S6.unsuite ok, q6⟩
          | ret u => obtain ⟨_, _, _, S6, r6, q6⟩ := hsp; exact ⟨_, _, _, S6.unsuite ok, r6, q6⟩
        | false =>
          show wpAny _ X.A (handleBy (.ref a) X.env hds3) _ _ _
          exact ih (hno rfl)
      | @named x n i c ts b0 suite np p2 hds3 l3 hN hi hln hc su r ih =>
        intro w
        obtain ⟨b, hb1, hyes, hno⟩ := w
        refine wpAny_handleBy_cons (codeAny_handlers_test ?_) (by intro q; cases q)
        refine look hc ((PySem.W.exm_one (M := model X.prog X.w) J3.kIn LT hb1).here ?_)
        cases b with
        | true =>
          refine codeAny_handlers_suite_as ?_
          refine HandSPX.lands_againZ fl3 fun g4 fl4 up4 => ?_
          have J4 : Inv X pins σ2 H2 { s2 with heap := g4 } := J.landed nb fl4.1 ((up.trans up3).trans up4) os ag
          obtain ⟨o4, vs4, e4, z4, d4⟩ := fl4.there
          refine store_ok (X := X.suite a ((a, o4) :: (X.pn ++ pins))) (v := .ref a) (J4.suite e4 d4 na nL nF) hN hi (.inl hln) rfl (fun s5 S5 => ?_) (.inr hln)
          refine wpAny_mono ((su a o4 cls d (X.pn ++ pins) z4 ⟨_, d4⟩).run [] s5 _ H2 _ S5 (hyes rfl a na)) (fun f s6 hsp => ?_) (fun _ _ z => False.elim z)
          have away : ∀ {σ6 : L2.St} {H6 : Hp} {Q : Shared → Prop}, Inv (X.suite a ((a, o4) :: (X.pn ++ pins))) [] σ6 H6 s6 → (∀ s7, Inv X pins (σ6.set i none) H6 s7 → Q s7) →
              wpAny (model X.prog X.w) X.A (do bindName X.env n .none; unbindBehindTheSuite X.env n p2) (fun _ s7 => Q s7) X.xe s6 := fun {σ6 H6 Q} S6 hq => gone_ok (S6.unsuite ok) hN hi hln hq
          cases f with
          | next => obtain ⟨_, _, S6, q6⟩ := hsp; exact away S6 fun s7 J7 => ⟨_, _, J7, q6⟩
          | brk => obtain ⟨_, _, S6, q6⟩ := hsp; exact away S6 fun s7 J7 => ⟨_, _, J7, q6⟩
          | cont => obtain ⟨_, _, S6, q6⟩ := hsp; exact away S6 fun s7 J7 => ⟨_, _, J7, q6⟩
          | ret u => obtain ⟨_, _, _, S6, r6, q6⟩ := hsp; exact away S6 fun s7 J7 => ⟨_, _, _, J7, r6, q6⟩
        | false =>
          show wpAny _ X.A (handleBy (.ref a) X.env hds3) _ _ _
          exact ih (hno rfl)
    exact go hh w
  · cases f with
    | next => obtain ⟨_, _, S6, q6⟩ := hsp; exact wpAny_execs_nil ⟨_, _, S6.ofTry ok, q6⟩
    | brk => obtain ⟨_, _, S6, q6⟩ := hsp; exact ⟨_, _, S6.ofTry ok, q6⟩
    | cont => obtain ⟨_, _, S6, q6⟩ := hsp; exact ⟨_, _, S6.ofTry ok, q6⟩
    | ret u => obtain ⟨_, _, _, S6, r6, q6⟩ := hsp; exact ⟨_, _, _, S6.ofTry ok, r6, q6⟩
end
end Rz

namespace Rz
open PySem PySem.Spec PyProof.Rows L2
/-! ### calls whose exceptions are wished for at the caller's slots -/
abbrev EX := L2.St → XK
/-- nothing is let out -/
abbrev EN : EX := fun _ => E0
theorem atN {X : Cx} (σ : L2.St) : PassesAt (L2.CX X.prog X.w) X σ (EN σ) := fun _ _ _ _ _ _ h => by
  obtain ⟨_, _, _, _, _, _, _, _, _, _, _, _, z⟩ := h
  exact z.elim
section
variable {X : Cx} {CX : CXT} {k : Nat} {f C : Addr} {fd : FuncData} {ps : List Str} {sp : Sp} {dvs : List V} {ds : List Value} {E : EX} {x m : Str} {p pos apos : Pos} {e o : Expr} {es : List Expr} {ta : TE} {t : TA}
theorem run_X {pins : List (Addr × Obj)} {σ : L2.St} {H : Hp} {s : Shared} {Q : VK} {us : List Value} {vs : List V} {A : Around} (F : FnOk X.prog X.w X.K X.mg X.base CX k f fd ps sp) (hr : Room k A) (hfr : A.frames = X.A.frames) (hb : Binds X.K fd ps ds) (hd : Vals dvs ds) (hx : PassesAt CX X σ (E σ))
    (I : Inv X pins σ H s) (r : Vals vs us) (h : sp (vs ++ dvs) H Q (E σ)) : codeAny (model X.prog X.w) A (.call (.ref f) ⟨us, []⟩) (fun q s' => match q with
      | .ok (.ret u) => EP X pins σ Q u s'
      | .ok _ => False
      | .error er => X.xe er s') s := by
  have e0 : Env0 X.prog X.w X.K X.mg X.base A X.stack s H := by
    have z := I.env0
    exact ⟨by rw [hfr]; exact z.frames, z.mod, z.bs, z.bsz, z.funs, z.frf, z.hok, z.bare⟩
  have hz := F.len _ _ _ _ h
  rw [(r.append hd).length] at hz
  refine codeAny_mono (F.run A X.stack s H ⟨us, []⟩ (us ++ ds) (vs ++ dvs) Q (E σ) hr e0 (hb s us I.kIn hz) (r.append hd) h) fun q s' hq => ?_
  match q, hq with
  | .error er, hq => exact hx pins H s er s' I hq
  | .ok (.ret u), hq => exact I.after hq
  | .ok .next, hq => exact hq
  | .ok .brk, hq => exact hq
  | .ok .cont, hq => exact hq
theorem ended {pins : List (Addr × Obj)} {σ : L2.St} {Q : VK} {q : Result} {s' : Shared} (h : match q with
      | .ok (.ret u) => EP X pins σ Q u s'
      | .ok _ => False
      | .error er => X.xe er s') : wants (EP X pins σ Q) X.xe q s' := by
  match q, h with
  | .error er, h => exact h
  | .ok (.ret u), h => exact h
  | .ok .next, h => exact h.elim
  | .ok .brk, h => exact h.elim
  | .ok .cont, h => exact h.elim
theorem run_XC {pins : List (Addr × Obj)} {σ : L2.St} {H : Hp} {s : Shared} {Q : VK} {us : List Value} {vs : List V} (F : FnOk X.prog X.w X.K X.mg X.base CX k f fd ps sp) (hr : Room k X.A) (hb : Binds X.K fd ps ds) (hd : Vals dvs ds) (hx : PassesAt CX X σ (E σ))
    (I : Inv X pins σ H s) (r : Vals vs us) (h : sp (vs ++ dvs) H Q (E σ)) : wpAny (model X.prog X.w) X.A (call (.ref f) us) (EP X pins σ Q) X.xe s :=
  wpAny_call (codeAny_mono (run_X F hr rfl hb hd hx I r h) fun _ _ hq => ended hq)
/-- f(..) -/
def tFn (sp : Sp) (dvs : List V) (E : EX) (t : TA) : TE := fun σ H Q => t σ H fun vs H1 => sp (vs ++ dvs) H1 Q (E σ)
theorem pe_fn (F : FnOk X.prog X.w X.K X.mg X.base CX k f fd ps sp) (hr : Room k X.A) (hg : Gl X x) (hm : X.mg x = some (.ref f)) (hk : PySem.W.keepIn X.K (.ref f) = true) (hb : Binds X.K fd ps ds) (hd : Vals dvs ds) (hx : ∀ σ, PassesAt CX X σ (E σ))
    (ha : PA X (e :: es) t) (hdb : (x == ("__debug__" : Str)) = false := by decide) (he : starEach (e :: es) X.env = (false, eval e X.env) :: starEach es X.env := by rfl) (hpl : (backTo pos (starEach es X.env)).any (·.1) = false := by rfl) :
    PE X (.Call (.Name x p) (e :: es) [] pos) (tFn sp dvs E t) := ⟨fun pins s σ H Q I h =>
  wpAny_Call_Name_kw (ld_glob I hg hm (PySem.W.callWith_K (h₀ := X.base) I.ok.mod.kin hk (thn (ha.run pos pins s σ H _ I h) fun us s1 ⟨vs, H1, J, r, q⟩ => ⟨J.kIn, run_XC F hr hb hd (hx σ) J r q⟩) he hpl) hdb)⟩
theorem pe_fn0 (F : FnOk X.prog X.w X.K X.mg X.base CX k f fd ps sp) (hr : Room k X.A) (hg : Gl X x) (hm : X.mg x = some (.ref f)) (hk : PySem.W.keepIn X.K (.ref f) = true) (hb : Binds X.K fd ps ds) (hd : Vals dvs ds) (hx : ∀ σ, PassesAt CX X σ (E σ))
    (hdb : (x == ("__debug__" : Str)) = false := by decide) : PE X (.Call (.Name x p) [] [] pos) (tFn sp dvs E tNil) := ⟨fun pins s σ H Q I h =>
  wpAny_Call_Name_kw (ld_glob I hg hm (PySem.W.callWith_K0 I.kIn hk (run_XC (us := []) F hr hb hd (hx σ) I .nil h)) hdb)⟩
/-- o.m(..) -/
def tMt (C : Addr) (m : Str) (sp : Sp) (dvs : List V) (E : EX) (ta : TE) (t : TA) : TE := fun σ H Q => ta σ H fun x H1 => ∃ a dx fs, x = .ref a ∧ H1 a = some (.ins C dx fs) ∧ fs.lookup m = none ∧
  t σ H1 fun vs H2 => sp (x :: (vs ++ dvs)) H2 Q (E σ)
theorem pe_mt {pl : Sem Bool} (he : PE X o ta) (c : Cls X.K C) (hm : Meth X.K C m f) (F : FnOk X.prog X.w X.K X.mg X.base CX k f fd ps sp) (hr : Room k X.A) (hb : Binds X.K fd ps ds) (hd : Vals dvs ds) (hx : ∀ σ, PassesAt CX X σ (E σ)) (ha : PA X (e :: es) t)
    (hst : starEach (e :: es) X.env = (false, eval e X.env) :: starEach es X.env := by rfl) (hpl : (backTo pos (starEach es X.env)).any (·.1) = false := by rfl)
    (ht : eval (.Call (.Attribute o m apos) (e :: es) [] pos) X.env = (do
      let ov ← eval o X.env
      standAt apos.atName
      let (f, first) ← holding [ov] (getMethod ov m pl)
      callWith pos f first (backTo pos (starEach (e :: es) X.env)) (backToKw pos (keywordEach [] X.env))) := by rfl) :
    PE X (.Call (.Attribute o m apos) (e :: es) [] pos) (tMt C m sp dvs E ta t) := by
  refine ⟨fun pins s σ H Q I h => PySem.W.methodCall_KW (pl := pl) (thn (he.run pins s σ H _ I h) fun u s1 hh => ?_) ht⟩
  obtain ⟨x, H1, J, rx, a, dx, fs, rfl, ea, l, q⟩ := hh
  obtain rfl : u = Value.ref a := rx
  refine getmeth_ok J ea c hm l (PySem.W.callWith_K (first := [.ref a]) (h₀ := X.base) I.ok.mod.kin hm.kp (thn (ha.run pos pins s1 σ H1 _ J q) fun us s2 ⟨vs, H2, J2, r, q2⟩ => ⟨J2.kIn, ?_⟩) hst hpl)
  exact run_XC (us := .ref a :: us) (vs := .ref a :: vs) F hr hb hd (hx σ) J2 (.cons rfl r) q2
theorem pe_mt0 {pl : Sem Bool} (he : PE X o ta) (c : Cls X.K C) (hm : Meth X.K C m f) (F : FnOk X.prog X.w X.K X.mg X.base CX k f fd ps sp) (hr : Room k X.A) (hb : Binds X.K fd ps ds) (hd : Vals dvs ds) (hx : ∀ σ, PassesAt CX X σ (E σ))
    (ht : eval (.Call (.Attribute o m apos) [] [] pos) X.env = (do
      let ov ← eval o X.env
      standAt apos.atName
      let (f, first) ← holding [ov] (getMethod ov m pl)
      callWith pos f first (backTo pos (starEach [] X.env)) (backToKw pos (keywordEach [] X.env))) := by rfl) :
    PE X (.Call (.Attribute o m apos) [] [] pos) (tMt C m sp dvs E ta tNil) := by
  refine ⟨fun pins s σ H Q I h => PySem.W.methodCall_KW (pl := pl) (thn (he.run pins s σ H _ I h) fun u s1 hh => ?_) ht⟩
  obtain ⟨x, H1, J, rx, a, dx, fs, rfl, ea, l, q⟩ := hh
  obtain rfl : u = Value.ref a := rx
  refine getmeth_ok J ea c hm l (PySem.W.callWith_K0 (first := [.ref a]) J.kIn hm.kp ?_)
  exact run_XC (us := [.ref a]) (vs := [.ref a]) F hr hb hd (hx σ) J (.cons rfl .nil) q
/-- C(..): a new instance, then its __init__ -/
def tMk (C : Addr) (sp : Sp) (dvs : List V) (E : EX) (t : TA) : TE := fun σ H Q => t σ H fun vs H1 => ∀ x dx, H1 x = none → H1 dx = none → dx ≠ x →
  sp (.ref x :: (vs ++ dvs)) (upd (upd H1 dx (.own x)) x (.ins C dx [])) (fun v H2 => v = .non ∧ Q (.ref x) H2) (E σ)
theorem run_mk {pins : List (Addr × Obj)} {σ : L2.St} {H : Hp} {s : Shared} {Q : VK} {us : List Value} {vs : List V} (M : Mk X.K C f) (F : FnOk X.prog X.w X.K X.mg X.base CX k f fd ps sp) (hr : Room (k + 1) X.A) (hb : Binds X.K fd ps ds) (hd : Vals dvs ds)
    (hx : PassesAt CX X σ (E σ)) (I : Inv X pins σ H s) (r : Vals vs us)
    (h : ∀ x dx, H x = none → H dx = none → dx ≠ x → sp (.ref x :: (vs ++ dvs)) (upd (upd H dx (.own x)) x (.ins C dx [])) (fun v H2 => v = .non ∧ Q (.ref x) H2) (E σ)) :
    wpAny (model X.prog X.w) X.A (call (.ref C) us) (EP X pins σ Q) X.xe s := by
  have hq := h (s.heap.objs.size + 1) s.heap.objs.size (I.hok.fresh (Nat.le_succ _)) (I.hok.fresh (Nat.le_refl _)) (Nat.ne_of_lt (Nat.lt_succ_self _))
  have J := Inv.made (C := C) I
  refine wpAny_call (make_map (f := f) I.kIn M.makes M.init (beq_iff_eq.mp M.fn) (codeAny_mono (run_X (vs := .ref (s.heap.objs.size + 1) :: vs) (us := .ref (s.heap.objs.size + 1) :: us) F (hr.make C us []) ((J.env0.make C us []).frames.trans J.ok.frames.symm) hb hd hx J (.cons rfl r) hq) fun q s' hq' => ?_))
  match q, hq' with
  | .error er, hq' => exact hq'
  | .ok (.ret u), hq' =>
    obtain ⟨v, H2, J2, rv, ev, q3⟩ := hq'
    subst ev
    exact ⟨rv, ⟨V.ref (s.heap.objs.size + 1), H2, J2, rfl, q3⟩⟩
  | .ok .next, hq' => exact hq'.elim
  | .ok .brk, hq' => exact hq'.elim
  | .ok .cont, hq' => exact hq'.elim
theorem pe_mk (M : Mk X.K C f) (F : FnOk X.prog X.w X.K X.mg X.base CX k f fd ps sp) (hr : Room (k + 1) X.A) (hg : Gl X x) (hm : X.mg x = some (.ref C)) (hb : Binds X.K fd ps ds) (hd : Vals dvs ds) (hx : ∀ σ, PassesAt CX X σ (E σ))
    (ha : PA X (e :: es) t) (hdb : (x == ("__debug__" : Str)) = false := by decide) (he : starEach (e :: es) X.env = (false, eval e X.env) :: starEach es X.env := by rfl) (hpl : (backTo pos (starEach es X.env)).any (·.1) = false := by rfl) :
    PE X (.Call (.Name x p) (e :: es) [] pos) (tMk C sp dvs E t) := ⟨fun pins s σ H Q I h =>
  wpAny_Call_Name_kw (ld_glob I hg hm (PySem.W.callWith_K (h₀ := X.base) I.ok.mod.kin M.kp (thn (ha.run pos pins s σ H _ I h) fun us s1 ⟨vs, H1, J, r, q⟩ => ⟨J.kIn, run_mk M F hr hb hd (hx σ) J r q⟩) he hpl) hdb)⟩
theorem pe_mk0 (M : Mk X.K C f) (F : FnOk X.prog X.w X.K X.mg X.base CX k f fd ps sp) (hr : Room (k + 1) X.A) (hg : Gl X x) (hm : X.mg x = some (.ref C)) (hb : Binds X.K fd ps ds) (hd : Vals dvs ds) (hx : ∀ σ, PassesAt CX X σ (E σ))
    (hdb : (x == ("__debug__" : Str)) = false := by decide) : PE X (.Call (.Name x p) [] [] pos) (tMk C sp dvs E tNil) := ⟨fun pins s σ H Q I h =>
  wpAny_Call_Name_kw (ld_glob I hg hm (PySem.W.callWith_K0 I.kIn M.kp (run_mk (us := []) M F hr hb hd (hx σ) I .nil h)) hdb)⟩
/-- e.f, a property -/
def tPr (C : Addr) (sp : Sp) (E : EX) (ta : TE) : TE := fun σ H Q => ta σ H fun x H1 => ∃ a dx fs, x = .ref a ∧ H1 a = some (.ins C dx fs) ∧ sp [.ref a] H1 Q (E σ)
theorem pe_pr {p g : Addr} {fn : Str} (he : PE X e ta) (c : Cls X.K C) (hp : PropOf X.K C fn p g) (F : FnOk X.prog X.w X.K X.mg X.base CX k g fd ps sp) (hr : Room (k + 1) X.A) (hb : Binds X.K fd ps []) (hx : Passes CX X.nox E0)
    (hab : attributeBase e fn X.env (eval e X.env) = eval e X.env := by rfl) : PE X (.Attribute e fn pos) (tPr C sp EN ta) := by
  have z := pe_prop (pos := pos) he c hp F hr hb .nil hx hab
  exact z
end
/-- .. nothing leaves -/
theorem passN {X : Cx} : Passes (L2.CX X.prog X.w) X E0 := fun _ σ H s e s' I h => atN (X := X) σ [] H s e s' (I.pins_of (pins' := []) fun p hp => by cases hp) h
end Rz

namespace Rz
open PySem PySem.Spec PyProof.Rows L2
/-! ### short words -/
/-- all but what stands at D is as it was -/
def But (D : List Addr) (H H' : Hp) : Prop := ∀ b o, b ∉ D → H b = some o → H' b = some o
theorem But.refl (D : List Addr) (H : Hp) : But D H H := fun _ _ _ h => h
theorem But.trans {D : List Addr} {H H1 H2 : Hp} (a : But D H H1) (b : But D H1 H2) : But D H H2 := fun c o n h => b c o n (a c o n h)
theorem But.mono {D D' : List Addr} {H H' : Hp} (a : But D H H') (h : ∀ b ∈ D, b ∈ D') : But D' H H' := fun c o n e => a c o (fun z => n (h c z)) e
theorem But.of {D : List Addr} {H H' : Hp} (h : Same H H') : But D H H' := fun b o _ e => h b o e
theorem But.same {H H' : Hp} (h : But [] H H') : Same H H' := fun b o e => h b o (by simp) e
theorem But.at {D : List Addr} {H H' : Hp} {b : Addr} {o : HO} (h : But D H H') (e : H b = some o) (n : b ∉ D := by simp) : H' b = some o := h b o n e
theorem But.upd {D : List Addr} {H H' : Hp} {p : Addr} {o : HO} (h : But D H H') (hp : p ∈ D ∨ H p = none) : But D H (upd H' p o) := fun b u n e => by
  have nb : b ≠ p := fun z => by
    subst z
    rcases hp with hp | hp
    · exact n hp
    · rw [hp] at e; cases e
  rw [upd_ne nb]
  exact h b u n e
theorem Same.upd {H H' : Hp} {p : Addr} {o : HO} (h : Same H H') (hp : H p = none) : Same H (upd H' p o) := fun b u e => by
  have nb : b ≠ p := fun z => by
    subst z
    rw [hp] at e; cases e
  rw [upd_ne nb]
  exact h b u e
theorem Same.new {H H' : Hp} {p : Addr} {o : HO} (h : Same H H') (hp : H' p = none) : Same H (L2.upd H' p o) := Rz.Same.upd h (h.free hp)
theorem Same.seqT {K : PySem.W.Frag} {H H' : Hp} {a : Addr} {xs : List V} (e : Same H H') (h : SqT K H a xs) : SqT K H' a xs := by
  rcases h with (h | ⟨o, h⟩) | h
  · exact .inl (.inl (e _ _ h))
  · exact .inl (.inr ⟨o, e _ _ h⟩)
  · exact .inr h
theorem But.free {D : List Addr} {H H' : Hp} (e : But D H H') {l : Addr} (n : l ∉ D) (h : H' l = Option.none) : H l = Option.none := by
  cases q : H l with
  | none => rfl
  | some o => rw [e l o n q] at h; cases h
section
variable {P : Program} {w : World} {K : PySem.W.Frag} {mg : Str → Option Value} {base : Heap}
/-- a def that lets nothing out -/
theorem Fun.okN {x qual : Str} {st : Stmt} {f : Addr} {fd : FuncData} {N ps : List Str} {k : Nat} {sp : Sp} (F : Fun K x qual st f fd) (S : FnScope N ps (defScope st)) (len : ∀ vs H Q E, sp vs H Q E → vs.length = ps.length)
    (hb : ∀ (cdv : Value) (A : Around) (outer : List Env) (s : Shared) (H : Hp) (vs : List V) (Q : VK) (E : XK), Room k (A.deeper (envOfC qual (defScope st) s.heap.objs.size f cdv)) → sp vs H Q E →
      ∃ t, PSs (cxOf (L2.CX P w) P w K mg base N qual (defScope st) f cdv A outer s H E).nox (defBody st) t ∧ t { nx := fun _ H' => Q .non H', rt := Q } (start N vs) H) : FnOk P w K mg base (L2.CX P w) (k + 1) f fd ps sp :=
  F.okX S len fun cdv A outer s H vs Q E hr h => let ⟨t, h1, h2⟩ := hb cdv A outer s H vs Q E hr h; ⟨t, h1.nox, h2⟩
end
/-! ### the law's draws -/
def Dr (H : Hp) (d : Addr) : Prop := ∃ ns : List Int, H d = some (.lst (ns.map V.int)) ∧ ns.length ≤ 4000
theorem Dr.same {H H' : Hp} {d : Addr} (h : Dr H d) (e : Same H H') : Dr H' d := let ⟨ns, h1, h2⟩ := h; ⟨ns, e _ _ h1, h2⟩
theorem mapi_get {ns : List Int} {i : Nat} {y : V} (h : (ns.map V.int)[i]? = some y) : ∃ u, ns[i]? = some u ∧ y = .int u := by
  rw [List.getElem?_map] at h
  cases e : ns[i]? with
  | none => rw [e] at h; cases h
  | some u => rw [e] at h; exact ⟨u, rfl, (Option.some.inj h).symm⟩
theorem no_cx : ∀ {P : Program} (w : World) (H : Hp) (s : Shared) (e : Value) (s' : Shared), L2.CX P w [] H s (fun _ _ _ => False) e s' → False := fun _ _ _ _ _ h => by
  obtain ⟨_, _, _, _, _, _, _, _, _, _, _, _, z⟩ := h
  exact z
end Rz
namespace Rz
open PySem PySem.Spec PyProof.Rows L2
theorem joinL_nil : ∀ ps : List (List Nat), TL.joinL [] ps = ps.flatten
  | [] => rfl
  | [p] => by simp [TL.joinL]
  | p :: q :: r => by
    have ih := joinL_nil (q :: r)
    show p ++ ([] ++ TL.joinL [] (q :: r)) = _
    rw [ih]
    simp
theorem join0 (ys : List Str) : (Txt.join "" ys).cps.toList = (ys.map fun y => y.cps.toList).flatten := by
  rw [TL.join_eq]
  exact (TL.tl_join "" ys).trans (joinL_nil _)
theorem join0_len (ys : List Str) : (Txt.join "" ys).length = (ys.map fun y => y.length).sum := by
  have h := congrArg List.length (join0 ys)
  rw [List.length_flatten, List.map_map] at h
  exact h
/-- every sign of x is one of z -/
def Over (z x : Str) : Prop := ∀ c ∈ x.cps.toList, c ∈ z.cps.toList
theorem over_join {z : Str} {ys : List Str} (h : ∀ y ∈ ys, Over z y) : Over z (Txt.join "" ys) := fun c hc => by
  rw [join0, List.mem_flatten] at hc
  obtain ⟨l, hl, hc⟩ := hc
  obtain ⟨y, hy, rfl⟩ := List.mem_map.mp hl
  exact h y hy c hc
theorem sum_ones : ∀ {ys : List Str}, (∀ y ∈ ys, y.length = 1) → (ys.map fun y => y.length).sum = ys.length
  | [], _ => rfl
  | y :: r, h => by
    rw [List.map_cons, List.sum_cons, sum_ones (ys := r) fun z hz => h z (List.mem_cons_of_mem _ hz), h y List.mem_cons_self, List.length_cons]
    omega
theorem atI_in {α : Type} {xs : List α} {r : Int} (h0 : 0 ≤ r) (h1 : r < xs.length) : ∃ v, v ∈ xs ∧ atI xs r = some v := by
  obtain ⟨n, rfl⟩ := Int.eq_ofNat_of_zero_le h0
  have hn : n < xs.length := by omega
  exact ⟨xs[n], List.getElem_mem hn, atI_nat (List.getElem?_eq_getElem hn)⟩
theorem yesT {σ : L2.St} {H : Hp} {A B : Hp → Prop} (h : A H) : tYes σ H fun b H3 => if b = true then A H3 else B H3 := by
  show (if true = true then A H else B H)
  rw [if_pos rfl]
  exact h
theorem len_list (z : Str) : z.cps.toList.length = z.length := rfl
end Rz
namespace Rz
open PySem PySem.Spec PyProof.Rows L2
/-! ### signs -/
def abc : Str := "abcdefghijklmnopqrstuvwxyz"
def oddC (c : Nat) : Bool := !decide (c ∈ abc.cps.toList)
/-- the place of the first character that is no sign -/
def fo (z : Str) : Option Nat := z.cps.toList.findIdx? oddC
def foI (z : Str) : Int := match fo z with
  | some i => (i : Int)
  | none => -1
theorem fo_some {z : Str} {i : Nat} {c : Nat} (h : z.cps.toList[i]? = some c) (ho : oddC c = true) (hb : ∀ (j c : Nat), j < i → z.cps.toList[j]? = some c → oddC c = false) : fo z = some i := by
  obtain ⟨hi, hc⟩ := List.getElem?_eq_some_iff.mp h
  refine List.findIdx?_eq_some_iff_getElem.mpr ⟨hi, by rw [hc]; exact ho, fun j hj => ?_⟩
  have e := hb j _ hj (List.getElem?_eq_getElem (Nat.lt_trans hj hi))
  rw [e]
  exact Bool.false_ne_true
theorem fo_none {z : Str} (h : ∀ (j c : Nat), z.cps.toList[j]? = some c → oddC c = false) : fo z = none :=
  List.findIdx?_eq_none_iff.mpr fun c hc => by
    obtain ⟨j, hj, e⟩ := List.getElem_of_mem hc
    exact h j c (by rw [List.getElem?_eq_getElem hj, e])
theorem fo_lt {z : Str} {i : Nat} (h : fo z = some i) : i < z.length := by
  obtain ⟨hi, _⟩ := List.findIdx?_eq_some_iff_getElem.mp h
  exact hi
theorem log_small {n : Int} {k : Nat} (h : n.natAbs < 2 ^ k) (hk : k ≤ 1919) : n.natAbs.log2 < 1920 := by
  by_cases h0 : n.natAbs = 0
  · rw [h0]
    decide
  · exact Nat.lt_of_lt_of_le ((Nat.log2_lt h0).mpr h) (by omega)
theorem log_nat {i : Nat} (h : i < 2 ^ 64) : (i : Int).natAbs.log2 < 1920 := log_small (k := 64) (by simpa using h) (by decide)
end Rz
namespace Rz
open PySem PySem.Spec PyProof.Rows L2
/-- what is asked where such an exception is made, and what is known then -/
theorem raise_fld {C : Addr} {fld : Str} {n : Int} {H1 : Hp} {Q : XK} (hn : n.natAbs.log2 < 1920) (q : ∀ H' d, Same H1 H' → H1 d = none → H' d = some (.xd [(fld, .int n)]) → Q (.ref C) (some d) H') :
    ∀ a, H1 a = none → spExI C fld (.ref a :: ([V.int n] ++ [])) (upd H1 a (exo a C none))
      (fun v H2 => v = .non ∧ ∃ (d : Addr) (fs : List (Str × V)), H2 a = some (exo a C (some d)) ∧ H2 d = some (exd d fs) ∧ H1 d = none ∧ Q (.ref C) (some d) (upd (del H2 a) d (.xd fs))) (fun _ _ _ => False) := fun a ha => by
  refine ⟨a, n, rfl, hn, upd_same, fun dx hdx nda => ⟨rfl, dx, [(fld, .int n)], by rw [upd_same], ?_, ?_, ?_⟩⟩
  · rw [upd_ne nda, upd_same]
  · rw [upd_ne nda] at hdx
    exact hdx
  · have hd1 : H1 dx = none := by
      rw [upd_ne nda] at hdx
      exact hdx
    refine q _ dx (fun b o e => ?_) hd1 upd_same
    have nba : b ≠ a := ne_of_none e ha
    have nbd : b ≠ dx := ne_of_none e hd1
    rw [upd_ne nbd, del_ne nba, upd_ne nba, upd_ne nbd, upd_ne nba]
    exact e
end Rz

namespace Rz
open PySem PySem.Spec PyProof.Rows L2
/-! ### data: lists of ints -/
abbrev dInts (ns : List Int) : PyData := .list (ns.map PyData.int)
theorem all_ints_lay : ∀ ns : List Int, PyData.canLayAll0 (ns.map PyData.int) = true
  | [] => rfl
  | n :: ns => by simp only [List.map_cons, PyData.canLayAll0, PyData.canLay0, all_ints_lay ns, Bool.and_self]
theorem all_ints_depth : ∀ ns : List Int, PyData.depthAll (ns.map PyData.int) = 0
  | [] => rfl
  | n :: ns => by simp only [List.map_cons, PyData.depthAll, PyData.depth, all_ints_depth ns, Nat.max_self]
theorem ints_shaped (ns : List Int) : SeqAt.shaped (dInts ns) = true := by
  have h : PyData.depth (dInts ns) ≤ 64 := by
    show PyData.depthAll (ns.map PyData.int) + 1 ≤ 64
    rw [all_ints_depth]
    decide
  show (PyData.canLayAll0 (ns.map PyData.int) && decide (PyData.depth (dInts ns) ≤ 64)) = true
  rw [all_ints_lay, decide_eq_true h]
  rfl
theorem ints_eqvA : ∀ a b : List Int, PyData.eqvAll (a.map PyData.int) (b.map PyData.int) = decide (a = b)
  | [], [] => rfl
  | [], _ :: _ => by simp [PyData.eqvAll]
  | _ :: _, [] => by simp [PyData.eqvAll]
  | x :: xs, y :: ys => by
    rw [List.map_cons, List.map_cons, PyData.eqvAll, ints_eqvA xs ys]
    show ((x == y) && decide (xs = ys)) = _
    by_cases h : x = y
    · subst h; simp
    · simp [h]
theorem ints_eqv (a b : List Int) : PyData.eqv (dInts a) (dInts b) = decide (a = b) := by
  show PyData.eqvAll _ _ = _
  exact ints_eqvA a b
theorem dp_intsA {K : PySem.W.Frag} {H : Hp} : ∀ ns : List Int, DpAll K H (ns.map V.int) (ns.map PyData.int)
  | [] => .nil
  | n :: ns => .cons (.int n) (dp_intsA ns)
theorem dp_ints {K : PySem.W.Frag} {H : Hp} {a : Addr} {ns : List Int} (h : SqL K H a (ns.map V.int)) : Dp K H (.ref a) (dInts ns) := .lst h (dp_intsA ns)
end Rz

namespace Rz
open PySem PySem.Spec PyProof.Rows L2
/-! ### the class's own special methods -/
section
variable {X : Cx} {k : Nat} {f C a dx : Addr} {fs : List (Str × V)} {fd : FuncData} {ps : List Str} {sp : Sp} {pins : List (Addr × Obj)} {σ : L2.St} {H : Hp} {s : Shared}
/-- the instance as the library's rules want it -/
theorem inst_at (I : Inv X pins σ H s) (e : H a = some (.ins C dx fs)) : ∃ od, PySem.W.InstAt s.heap a (PySem.W.instObj C dx) C (some od) := by
  obtain ⟨mA, O, _⟩ := ins_get I.hok e
  obtain ⟨od, J, _⟩ := O.look
  exact ⟨od, J⟩
/-- the def called somewhere below the running body, nothing leaves it -/
theorem run_below {Q : VK} {us : List Value} {vs : List V} {A : Around} {E' : Value → Shared → Prop} (F : FnOk X.prog X.w X.K X.mg X.base (L2.CX X.prog X.w) k f fd ps sp) (hr : Room k A) (hfr : A.frames = X.A.frames) (hb : Binds X.K fd ps [])
    (I : Inv X pins σ H s) (r : Vals vs us) (h : sp vs H Q E0) : wpAny (model X.prog X.w) A (call (.ref f) us) (EP X pins σ Q) E' s := by
  have z := run_X (E := EN) (X := X.nox) (A := A) (pins := pins) (σ := σ) (Q := Q) F hr hfr hb .nil (atN (X := X.nox) σ) (I.wish _) r (by rw [List.append_nil]; exact h)
  refine wpAny_call (codeAny_mono z fun q s' hq => ?_)
  match q, hq with
  | .error er, hq => exact hq.elim
  | .ok (.ret u), hq =>
    obtain ⟨v, H', J, rv, q⟩ := hq
    exact ⟨v, H', J.unwish, rv, q⟩
  | .ok .next, hq => exact hq.elim
  | .ok .brk, hq => exact hq.elim
  | .ok .cont, hq => exact hq.elim
/-- str(x) by the own __str__ -/
theorem call_strO (M : Meth X.K C "__str__" f) (F : FnOk X.prog X.w X.K X.mg X.base (L2.CX X.prog X.w) k f fd ps sp) (hr : Room (k + 2) X.A) (hb : Binds X.K fd ps []) :
    CallR X (.type "str") (fun xs H Q => ∃ a dx fs, xs = [.ref a] ∧ H a = some (.ins C dx fs) ∧ sp [.ref a] H (fun v H' => (∃ z, v = .str z) ∧ Q v H') E0) := by
  intro pins s σ H xs us Q I r h
  obtain ⟨a, dx, fs, rfl, ea, hq⟩ := h
  obtain ⟨u, rfl, ru⟩ := vals1 r
  obtain rfl : u = Value.ref a := ru
  obtain ⟨od, J⟩ := inst_at I ea
  refine PySem.W.kso_call hr.in1.in1.units0 I.kIn J M.at_ M.fn (wpAny_mono (run_below (vs := [.ref a]) F hr.in1.in1 rfl hb I (.cons rfl .nil) hq) (fun v s' hv => ?_) fun _ _ z => z)
  obtain ⟨x, H', J', rx, ⟨z, rfl⟩, q⟩ := hv
  obtain ⟨t, rfl⟩ := rx
  show EP X pins σ Q _ _
  exact ⟨.str z, H', J', ⟨t, rfl⟩, q⟩
end
end Rz

namespace Rz
open PySem PySem.Spec PyProof.Rows L2
open Sem (wp)
/-! ### list(zip(text, list)) -/
theorem zip_nolen : typeLookup (.type "zip") "__len__" = pure Option.none := am_miss_of_fast (by decide +kernel)
theorem zip_nohint : typeLookup (.type "zip") "__length_hint__" = pure Option.none := am_miss_of_fast (by decide +kernel)
section
variable {prog : Program} {w : World} {A : Around} {E : Value → Shared → Prop} {s : Shared} {zz TI TO T i1 i2 L : Addr} {f1 f2 : List Addr} {n1 n2 i n : Nat} {P1 P2 : Nat → Value → Prop} {S1 S2 : Nat → Heap → Prop} {fl : Bool} {oT : Obj}

/-- next of a zip whose tuple is still out -/
theorem zh_item {Q : Value → Shared → Prop} (Z : ZipSep2 zz TI TO i1 i2 f1 f2) (D1 : Draws prog w A i1 f1 n1 P1 S1) (D2 : Draws prog w A i2 f2 n2 P2 S2)
    (gz : IsZipHeld s.heap zz TI TO T fl) (gT : s.heap.get? T = some oT) (gI : IsTupOf2 s.heap TI (.ref i1) (.ref i2)) (t1 : S1 i s.heap) (t2 : S2 i s.heap) (l1 : i < n1) (l2 : i < n2)
    (hQ : ∀ x y h' tk, P1 i x → P2 i y → IsZipHeld h' zz TI TO T true → S1 (i + 1) h' → S2 (i + 1) h' → IsTupOf2 h' s.heap.objs.size x y → h'.objs.size = s.heap.objs.size + 1 →
      (∀ c o, c ≠ zz → c ≠ i1 → c ≠ i2 → s.heap.get? c = some o → h'.get? c = some o) → Q (.ref s.heap.objs.size) { s with heap := h', toks := tk }) :
    wpAny (model prog w) A (Builtin.«zip.__next__» ⟨[.ref zz], []⟩) (fun fin s' => ∃ v, fin = .done (.ret v) ∧ Q v s') E s := by
  obtain ⟨hp, g, d, tk0, os⟩ := s
  show wpAny _ _ (field (.ref zz) 2 >>= _) _ _ _
  refine wpAny_bind (wpAny_field gz rfl (x := .bool false) rfl ?_)
  show wpAny _ _ (field (.ref zz) 3 >>= _) _ _ _
  refine wpAny_bind (wpAny_field gz rfl (x := .ref TI) rfl ?_)
  refine wpAny_bind (wpAny_seqItems gI rfl ?_)
  show wpAny _ _ (Builtin.SmallTypes.ownedTupleIsFree (.ref zz) >>= _) _ _ _
  refine wpAny_bind (wpAny_tupleHeld_zip gz gT fun h1 gz1 s1 => ?_)
  simp only [Bool.false_eq_true, if_false]
  refine wpAny_bind ?_
  rw [← Array.forIn_toList]
  simp only [List.forIn_cons, List.forIn_nil]
  refine wpAny_bind (wpAny_bind (wpAny_holding ?_))
  show wpAny _ _ (Builtin.SmallTypes.nextOf (.ref i1) >>= _) _ _ ⟨h1, g, d, tk0, os⟩
  refine wpAny_bind (D1.item i _ _ _ l1 (D1.over t1 s1 Z.zf1) fun x h2 tk1 px u1 s2 => wpAny_pure (wpAny_pure ?_))
  replace s2 : Heap.SameBut i1 h1 h2 := s2
  refine wpAny_bind (wpAny_bind (wpAny_holding ?_))
  show wpAny _ _ (Builtin.SmallTypes.nextOf (.ref i2) >>= _) _ _ ⟨h2, g, d, tk1, os⟩
  refine wpAny_bind (D2.item i _ _ _ l2 (D2.over (D2.over t2 s1 Z.zf2) s2 Z.sep1_2) fun y h3 tk2 py u2 s3 => wpAny_pure (wpAny_pure (wpAny_pure ?_)))
  replace s3 : Heap.SameBut i2 h2 h3 := s3
  show wpAny _ _ (newTuple [x, y] >>= _) _ _ ⟨h3, g, d, tk2, os⟩
  refine wpAny_bind (wpAny_newTuple ?_)
  have size3 : h3.objs.size = hp.objs.size := by rw [s3.1, s2.1, s1.1]
  have gz3 : IsZipHeld h3 zz TI TO T true := s3.extBut _ _ Z.zi2 (s2.extBut _ _ Z.zi1 gz1)
  have kk : ∀ c o, c ≠ zz → c ≠ i1 → c ≠ i2 → hp.get? c = some o → h3.get? c = some o := fun c o c1 c2 c3 e => s3.extBut _ _ c3 (s2.extBut _ _ c2 (s1.extBut _ _ c1 e))
  refine wpAny_pure ⟨_, rfl, ?_⟩
  show Q (.ref h3.objs.size) ⟨h3.push { cls := .type "tuple", data := .seq #[x, y] }, g, d, tk2, os⟩
  have new : IsTupOf2 (h3.push { cls := .type "tuple", data := .seq #[x, y] }) h3.objs.size x y := Heap.get?_push_size _ rfl
  have size4 : (h3.push { cls := .type "tuple", data := .seq #[x, y] }).objs.size = h3.objs.size + 1 := Heap.size_push ..
  rw [size3] at new size4 ⊢
  exact hQ x y _ tk2 px py (Heap.get?_push_of_some _ gz3) (D1.frame _ _ _ (D1.over u1 s3 Z.sep2_1) fun b _ o e => Heap.get?_push_of_some _ e) (D2.frame _ _ _ u2 fun b _ o e => Heap.get?_push_of_some _ e) new size4 fun c o c1 c2 c3 e => Heap.get?_push_of_some _ (kk c o c1 c2 c3 e)

theorem zh_end {Q : Fin → Shared → Prop} (Z : ZipSep2 zz TI TO i1 i2 f1 f2) (D1 : Draws prog w A i1 f1 n1 P1 S1) (D2 : Draws prog w A i2 f2 n2 P2 S2)
    (gz : IsZipHeld s.heap zz TI TO T fl) (gT : s.heap.get? T = some oT) (gI : IsTupOf2 s.heap TI (.ref i1) (.ref i2)) (t1 : S1 i s.heap) (t2 : S2 i s.heap) (hn1 : i = n1) 
    (hE : ∀ h' tk e, (∀ c o, c ≠ zz → c ≠ i1 → c ≠ i2 → s.heap.get? c = some o → h'.get? c = some o) → (∃ o, h'.get? e = some o ∧ o.cls = .type "StopIteration") → E (.ref e) { s with heap := h', toks := tk }) :
    wpAny (model prog w) A (Builtin.«zip.__next__» ⟨[.ref zz], []⟩) Q E s := by
  obtain ⟨hp, g, d, tk0, os⟩ := s
  show wpAny _ _ (field (.ref zz) 2 >>= _) _ _ _
  refine wpAny_bind (wpAny_field gz rfl (x := .bool false) rfl ?_)
  show wpAny _ _ (field (.ref zz) 3 >>= _) _ _ _
  refine wpAny_bind (wpAny_field gz rfl (x := .ref TI) rfl ?_)
  refine wpAny_bind (wpAny_seqItems gI rfl ?_)
  show wpAny _ _ (Builtin.SmallTypes.ownedTupleIsFree (.ref zz) >>= _) _ _ _
  refine wpAny_bind (wpAny_tupleHeld_zip gz gT fun h1 gz1 s1 => ?_)
  simp only [Bool.false_eq_true, if_false]
  refine wpAny_bind ?_
  rw [← Array.forIn_toList]
  simp only [List.forIn_cons, List.forIn_nil]
  refine wpAny_bind (wpAny_bind (wpAny_holding ?_))
  show wpAny _ _ (Builtin.SmallTypes.nextOf (.ref i1) >>= _) _ _ ⟨h1, g, d, tk0, os⟩
  subst hn1
  refine wpAny_bind (D1.done ⟨h1, g, d, tk0, os⟩ _ _ (D1.over t1 s1 Z.zf1) fun q e hq he => ?_)
  exact hE q tk0 e (fun c o c1 c2 _ x => hq _ _ c2 (s1.extBut _ _ c1 x)) he

/-- such a zip while a list at L is filled from it -/
def ZS (zz TI TO i1 i2 L : Addr) (S1 S2 : Nat → Heap → Prop) (i : Nat) (h : Heap) : Prop := IsTupOf2 h TI (.ref i1) (.ref i2) ∧ S1 i h ∧ S2 i h ∧
  ((IsZip h zz TI TO .none ∧ ∃ a b, IsTupOf2 h TO a b) ∨ ∃ T f o, IsZipHeld h zz TI TO T f ∧ h.get? T = some o ∧ T ≠ zz ∧ T ≠ i1 ∧ T ≠ i2 ∧ T ≠ L)
theorem zs_item {Q : Option Value → Shared → Prop} (Z : ZipSep2 zz TI TO i1 i2 f1 f2) (D1 : Draws prog w A.in1 i1 f1 n1 P1 S1) (D2 : Draws prog w A.in1 i2 f2 n2 P2 S2)
    (st : ZS zz TI TO i1 i2 L S1 S2 i s.heap) (hL : L < s.heap.objs.size) (l1 : i < n1) (l2 : i < n2)
    (hQ : ∀ x y h' tk, P1 i x → P2 i y → ZS zz TI TO i1 i2 L S1 S2 (i + 1) h' → IsTupOf2 h' s.heap.objs.size x y → h'.objs.size = s.heap.objs.size + 1 →
      (∀ c o, c ≠ zz → c ≠ TO → c ≠ i1 → c ≠ i2 → s.heap.get? c = some o → h'.get? c = some o) → Q (some (.ref s.heap.objs.size)) { s with heap := h', toks := tk }) :
    wpAny (model prog w) A (pyNext (.ref zz)) Q E s := by
  obtain ⟨gI, t1, t2, st⟩ := st
  have o1 : s.heap.objs.size ≠ i1 := let ⟨_, e⟩ := D1.live _ _ t1; Nat.ne_of_gt (Heap.lt_size e)
  have o2 : s.heap.objs.size ≠ i2 := let ⟨_, e⟩ := D2.live _ _ t2; Nat.ne_of_gt (Heap.lt_size e)
  rcases st with ⟨gz, a, b, gO⟩ | ⟨T, f, o, gz, gT, r1, r2, r3, r4⟩
  · refine wpAny_pyNext_zipD2_item Z D1 D2 gz gI gO t1 t2 l1 l2 fun x y h' tk px py b1 b2 u1 u2 new sz kk => ?_
    exact hQ x y h' tk px py ⟨kk _ _ Z.TIz Z.TITO Z.TIi1 Z.TIi2 gI, u1, u2, .inr ⟨_, false, _, b1, new, Nat.ne_of_gt (Heap.lt_size gz), o1, o2, Nat.ne_of_gt hL⟩⟩ new sz kk
  · have ty : s.TypeIs (.ref zz) "zip" := ⟨_, gz, rfl⟩
    unfold pyNext
    exact wpAny_bind (wpAny_attempt (wpAny_callSpecial?_slot (name := Str.ofString "__next__") ty F.slot_zip_next (wpAny_call_entry F.slot_zip_next ty F.entry_zip_next
      (zh_item Z D1 D2 gz gT gI t1 t2 l1 l2 fun x y h' tk px py b1 u1 u2 new sz kk => wpAny_pure
        (hQ x y h' tk px py ⟨kk _ _ Z.TIz Z.TIi1 Z.TIi2 gI, u1, u2, .inr ⟨T, true, o, b1, kk _ _ r1 r2 r3 gT, r1, r2, r3, r4⟩⟩ new sz fun c o c1 _ c3 c4 e => kk c o c1 c3 c4 e)) (F.args_zip_next_1 _))))
theorem zs_end {Q : Option Value → Shared → Prop} (Z : ZipSep2 zz TI TO i1 i2 f1 f2) (D1 : Draws prog w A.in1 i1 f1 n1 P1 S1) (D2 : Draws prog w A.in1 i2 f2 n2 P2 S2)
    (st : ZS zz TI TO i1 i2 L S1 S2 i s.heap) (hn : i = n1) (h12 : n1 ≤ n2)
    (hQ : ∀ h' tk, (∀ c o, c ≠ zz → c ≠ TO → c ≠ i1 → c ≠ i2 → s.heap.get? c = some o → h'.get? c = some o) → Q Option.none { s with heap := h', toks := tk }) : wpAny (model prog w) A (pyNext (.ref zz)) Q E s := by
  obtain ⟨gI, t1, t2, st⟩ := st
  rcases st with ⟨gz, a, b, gO⟩ | ⟨T, f, o, gz, gT, r1, r2, r3, r4⟩
  · exact wpAny_pyNext_zipD2_end Z D1 D2 gz gI gO t1 t2 (by omega) (by omega) (.inl hn) fun h' tk kk => hQ h' tk kk
  · have ty : s.TypeIs (.ref zz) "zip" := ⟨_, gz, rfl⟩
    unfold pyNext
    refine wpAny_bind (wpAny_attempt (wpAny_callSpecial?_slot (name := Str.ofString "__next__") ty F.slot_zip_next (wpAny_call_entry F.slot_zip_next ty F.entry_zip_next
      (zh_end Z D1 D2 gz gT gI t1 t2 hn fun h' tk e kk he => ?_) (F.args_zip_next_1 _))))
    obtain ⟨oe, h1, h2⟩ := he
    refine wpAny_bind (wpAny_isInstance (T := "StopIteration") (b := true) ⟨oe, h1, h2⟩ isSubtype_stop ?_)
    exact wpAny_pure (hQ _ _ fun c o c1 _ c3 c4 e => kk c o c1 c3 c4 e)
theorem ZS.keep {h h' : Heap} (st : ZS zz TI TO i1 i2 L S1 S2 i h) (D1 : Draws prog w A i1 f1 n1 P1 S1) (D2 : Draws prog w A i2 f2 n2 P2 S2) (kk : ∀ b o, b ≠ L → h.get? b = some o → h'.get? b = some o) (n0 : zz ≠ L) (nI : TI ≠ L) (nO : TO ≠ L) (nf1 : L ∉ f1) (nf2 : L ∉ f2) :
    ZS zz TI TO i1 i2 L S1 S2 i h' := by
  obtain ⟨gI, t1, t2, st⟩ := st
  refine ⟨kk _ _ nI gI, D1.frame _ _ _ t1 fun b hb o e => kk b o (fun z => nf1 (z ▸ hb)) e, D2.frame _ _ _ t2 fun b hb o e => kk b o (fun z => nf2 (z ▸ hb)) e, ?_⟩
  rcases st with ⟨gz, a, b, gO⟩ | ⟨T, f, o, gz, gT, r1, r2, r3, r4⟩
  · exact .inl ⟨kk _ _ n0 gz, a, b, kk _ _ nO gO⟩
  · exact .inr ⟨T, f, o, kk _ _ n0 gz, kk _ _ r4 gT, r1, r2, r3, r4⟩

/-- the tuples that came -/
structure ZG (P1 P2 : Nat → Value → Prop) (lo : Addr) (h : Heap) (as : List Addr) : Prop where
  rise : as.Pairwise (· < ·)
  over : ∀ a ∈ as, lo < a
  pairs : ∀ (j : Nat) (a : Addr), as[j]? = some a → ∃ x y, P1 j x ∧ P2 j y ∧ IsTupOf2 h a x y
theorem zg_loop {R : Result → Shared → Prop} {base : Heap} (Z : ZipSep2 zz TI TO i1 i2 f1 f2) (D1 : Draws prog w A.in1.in1 i1 f1 n1 P1 S1) (D2 : Draws prog w A.in1.in1 i2 f2 n2 P2 S2) (h12 : n1 ≤ n2)
    (n0 : zz < L) (nI : TI < L) (nO : TO < L) (m1 : i1 < L) (m2 : i2 < L) (nf1 : L ∉ f1) (nf2 : L ∉ f2) (hn : n1 ≤ sizeLine) (res : Value)
    (hR : ∀ h' tk acc c as, (∀ b o, b ≠ L → b ≠ zz → b ≠ TO → b ≠ i1 → b ≠ i2 → base.get? b = some o → h'.get? b = some o) → h'.get? L = some { cls := .type "list", dict := Option.none, data := .seq acc c, slots := #[] } → as.length = n1 → ZG P1 P2 L h' as →
      acc.toList = as.map Value.ref → R (.ok (.ret res)) { s with heap := h', toks := tk }) :
    ∀ (k i : Nat) (h : Heap) (tk c : Nat) (acc : Array Value) (as : List Addr), n1 - i = k → i ≤ n1 → ZS zz TI TO i1 i2 L S1 S2 i h → (∀ b o, b ≠ L → b ≠ zz → b ≠ TO → b ≠ i1 → b ≠ i2 → base.get? b = some o → h.get? b = some o) →
      h.get? L = some { cls := .type "list", dict := Option.none, data := .seq acc c, slots := #[] } → acc.toList = as.map Value.ref → as.length = i → ZG P1 P2 L h as →
      codeAny (model prog w) A (.builtin "list.extend.loop" ⟨[.ref L, .ref zz, res], []⟩) R { s with heap := h, toks := tk } := by
  intro k
  induction k with
  | zero =>
    intro i h tk c acc as hk hi st keep hL hacc hal hG
    refine codeAny_builtin F.entry_extend_loop ?_
    rw [Around.under_plainId F.plain_extend_loop _]
    show wpAny _ A.in1 (pyNext (.ref zz) >>= _) _ _ _
    refine wpAny_bind (zs_end (s := { s with heap := h, toks := tk }) Z D1 D2 st (by omega) h12 fun h' tk' kk => ?_)
    refine wpAny_pure (hR h' tk' acc c as (fun b o h1 h2 h3 h4 h5 e => kk b o h2 h3 h4 h5 (keep b o h1 h2 h3 h4 h5 e)) (kk L _ (Nat.ne_of_gt n0) (Nat.ne_of_gt nO) (Nat.ne_of_gt m1) (Nat.ne_of_gt m2) hL) (by omega) ⟨hG.rise, hG.over, fun j a hj => ?_⟩ hacc)
    obtain ⟨x, y, px, py, e⟩ := hG.pairs j a hj
    have hb := hG.over a (List.mem_of_getElem? hj)
    exact ⟨x, y, px, py, kk a _ (Nat.ne_of_gt (Nat.lt_trans n0 hb)) (Nat.ne_of_gt (Nat.lt_trans nO hb)) (Nat.ne_of_gt (Nat.lt_trans m1 hb)) (Nat.ne_of_gt (Nat.lt_trans m2 hb)) e⟩
  | succ k ih =>
    intro i h tk c acc as hk hi st keep hL hacc hal hG
    have hlt : i < n1 := by omega
    have size : acc.size = i := by rw [← Array.length_toList, hacc, List.length_map, hal]
    have lL : L < h.objs.size := Heap.lt_size hL
    refine codeAny_builtin F.entry_extend_loop ?_
    rw [Around.under_plainId F.plain_extend_loop _]
    show wpAny _ A.in1 (pyNext (.ref zz) >>= _) _ _ _
    refine wpAny_bind (zs_item (s := { s with heap := h, toks := tk }) Z D1 D2 st lL hlt (by omega) fun x y h' tk' px py st' new sz kk => ?_)
    dsimp only at new sz kk ⊢
    have hL' := kk L _ (Nat.ne_of_gt n0) (Nat.ne_of_gt nO) (Nat.ne_of_gt m1) (Nat.ne_of_gt m2) hL
    have up : ∀ b o, b ≠ L → h'.get? b = some o → (h'.update L (Obj.mapSeq (·.push (Value.ref h.objs.size)))).get? b = some o := fun b o hb e => (Heap.get?_update_other _ _ (Ne.symm hb)).trans e
    show wpAny _ A.in1 (updateSeq L (·.push (Value.ref h.objs.size)) >>= _) _ _ _
    refine wpAny_bind ?_
    refine wpAny_updateSeq hL' rfl (wpAny_pure ⟨plainId_quiet F.plain_extend_loop _, ih (i + 1) _ tk' _ (acc.push (Value.ref h.objs.size)) (as ++ [h.objs.size]) (by omega) hlt (st'.keep D1 D2 up (Nat.ne_of_lt n0) (Nat.ne_of_lt nI) (Nat.ne_of_lt nO) nf1 nf2)
      (fun b o h1 h2 h3 h4 h5 e => up b o h1 (kk b o h2 h3 h4 h5 (keep b o h1 h2 h3 h4 h5 e))) (Heap.get?_update_self _ hL' rfl) (by rw [Array.toList_push, hacc, List.map_append]; rfl) (by rw [List.length_append, hal]; rfl) ⟨?_, ?_, ?_⟩⟩) (by rw [size]; omega) (by show (acc.push (Value.ref h.objs.size)).size ≤ sizeLine + 1; rw [Array.size_push, size]; omega)
    · refine List.pairwise_append.mpr ⟨hG.rise, List.pairwise_singleton _ _, fun a ha b hb => ?_⟩
      obtain ⟨j, hj⟩ := List.mem_iff_getElem?.mp ha
      obtain ⟨_, _, _, _, e⟩ := hG.pairs j a hj
      rw [List.mem_singleton.mp hb]
      exact Heap.lt_size e
    · intro a ha
      rcases List.mem_append.mp ha with ha | ha
      · exact hG.over a ha
      · rw [List.mem_singleton.mp ha]; exact lL
    · intro j b hj
      rcases Nat.lt_trichotomy j as.length with h1 | h1 | h1
      · rw [List.getElem?_append_left h1] at hj
        obtain ⟨x', y', q1, q2, q3⟩ := hG.pairs j b hj
        have hb := hG.over b (List.mem_of_getElem? hj)
        exact ⟨x', y', q1, q2, up b _ (Nat.ne_of_gt hb) (kk b _ (Nat.ne_of_gt (Nat.lt_trans n0 hb)) (Nat.ne_of_gt (Nat.lt_trans nO hb)) (Nat.ne_of_gt (Nat.lt_trans m1 hb)) (Nat.ne_of_gt (Nat.lt_trans m2 hb)) q3)⟩
      · subst h1
        have hb : h.objs.size = b := by simpa using hj
        subst hb
        exact ⟨x, y, by rw [hal]; exact px, by rw [hal]; exact py, up _ _ (Nat.ne_of_gt lL) new⟩
      · rw [List.getElem?_eq_none (by rw [List.length_append, List.length_singleton]; omega)] at hj
        cases hj
theorem zg_call {Q : Value → Shared → Prop} (Z : ZipSep2 zz TI TO i1 i2 f1 f2) (D1 : Draws prog w A.in1.in1.in1 i1 f1 n1 P1 S1) (D2 : Draws prog w A.in1.in1.in1 i2 f2 n2 P2 S2) (h12 : n1 ≤ n2) (hn : n1 ≤ sizeLine)
    (gz : IsZip s.heap zz TI TO .none) (gI : IsTupOf2 s.heap TI (.ref i1) (.ref i2)) {a b : Value} (gO : IsTupOf2 s.heap TO a b) (t1 : S1 0 s.heap) (t2 : S2 0 s.heap) (nf1 : ∀ c ∈ f1, c < s.heap.objs.size) (nf2 : ∀ c ∈ f2, c < s.heap.objs.size)
    (hQ : ∀ h' tk acc c as, (∀ b o, b ≠ zz → b ≠ TO → b ≠ i1 → b ≠ i2 → s.heap.get? b = some o → h'.get? b = some o) → h'.get? s.heap.objs.size = some { cls := .type "list", dict := Option.none, data := .seq acc c, slots := #[] } → as.length = n1 → ZG P1 P2 s.heap.objs.size h' as →
      acc.toList = as.map Value.ref → Q (.ref s.heap.objs.size) { s with heap := h', toks := tk }) :
    wpAny (model prog w) A (call (.type "list") [.ref zz]) Q E s := by
  have q1 : s.heap.objs.size ∉ f1 := fun z => Nat.lt_irrefl _ (nf1 _ z)
  have q2 : s.heap.objs.size ∉ f2 := fun z => Nat.lt_irrefl _ (nf2 _ z)
  have lz := Heap.lt_size gz
  have lI := Heap.lt_size gI
  have lO := Heap.lt_size gO
  have m1 := nf1 _ Z.mem1
  have m2 := nf2 _ Z.mem2
  refine callType_codes (Q₁ := fun obj s₁ => obj = .ref s.heap.objs.size ∧ s₁ = { s with heap := s.heap.push { cls := .type "list", data := .seq #[] } }) F.called_list (F.typeCall_list_1 (.ref zz)) F.entry_list_init
    (code_list_new _ ⟨rfl, rfl⟩) fun obj s₁ h₁ => ?_
  obtain ⟨rfl, rfl⟩ := h₁
  have hS : (s.heap.push { cls := .type "list", data := .seq #[] }).get? s.heap.objs.size = some { cls := .type "list", data := .seq #[] } := Heap.get?_push_size _ rfl
  refine ⟨⟨_, hS, rfl⟩, F.args_list_init_2 _ (.ref zz), ?_⟩
  generalize hL : s.heap.objs.size = L at *
  have st0 : ZS zz TI TO i1 i2 L S1 S2 0 (s.heap.push { cls := .type "list", data := .seq #[] }) := ⟨Heap.get?_push_of_some _ gI, D1.frame _ _ _ t1 fun b _ o e => Heap.get?_push_of_some _ e, D2.frame _ _ _ t2 fun b _ o e => Heap.get?_push_of_some _ e, .inl ⟨Heap.get?_push_of_some _ gz, a, b, Heap.get?_push_of_some _ gO⟩⟩
  have k0 : ∀ b o, s.heap.get? b = some o → (s.heap.push { cls := .type "list", data := .seq #[] }).get? b = some o := fun b o e => Heap.get?_push_of_some _ e
  generalize (s.heap.push { cls := .type "list", data := .seq #[] }) = h0 at hS st0 k0
  show wpAny _ A.in1.in1 (do let old ← Builtin.List.listItems (.ref L); Builtin.List.listUpdate (.ref L) (fun _ => #[]); letGo old.toList.reverse; Builtin.List.listExtendWith (.ref L) (.ref zz) .none) _ _ _
  refine wpAny_bind ?_
  unfold Builtin.List.listItems
  refine wpAny_bind (wpAny_seqItems hS rfl (wpAny_pure ?_))
  show wpAny _ A.in1.in1 (updateSeq L (fun _ => #[]) >>= fun _ => letGo (#[] : Array Value).toList.reverse >>= fun _ => Builtin.List.listExtendWith (.ref L) (.ref zz) .none) _ _ _
  refine wpAny_bind (wpAny_updateSeq hS rfl ?_)
  have g2 := Heap.get?_update_self (Obj.mapSeq (fun _ => (#[] : Array Value))) hS rfl
  have kk2 : ∀ b o, b ≠ L → h0.get? b = some o → (h0.update L (Obj.mapSeq (fun _ => (#[] : Array Value)))).get? b = some o := fun b o hb e => (Heap.get?_update_other _ _ (Ne.symm hb)).trans e
  have st2 := st0.keep D1 D2 kk2 (Nat.ne_of_lt lz) (Nat.ne_of_lt lI) (Nat.ne_of_lt lO) q1 q2
  refine wpAny_bind (wpAny_letGo ?_)
  dsimp only at g2 kk2 st2 ⊢
  generalize (h0.update L (Obj.mapSeq (fun _ => (#[] : Array Value)))) = hh2 at g2 kk2 st2 ⊢
  have gz2 : IsZip hh2 zz TI TO .none := kk2 _ _ (Nat.ne_of_lt lz) (k0 _ _ gz)
  have ty2 : Shared.TypeIs { s with heap := hh2 } (.ref zz) "zip" := ⟨_, gz2, rfl⟩
  unfold Builtin.List.listExtendWith
  refine wpAny_bind (wpAny_typeOf ty2 ?_)
  have c1 : Builtin.List.listSameRef (.ref L) (.ref zz) = false := by simp [Builtin.List.listSameRef, Nat.ne_of_gt lz]
  have c2 : (Value.type "zip" == Value.type "list") = false := by decide
  have c3 : (Value.type "zip" == Value.type "tuple") = false := by decide
  simp only [c1, c2, c3, Bool.or_false, Bool.false_eq_true, if_false]
  refine wpAny_bind (wpAny_pyIter_zip gz2 ?_)
  refine wpAny_bind (wpAny_holding ?_)
  unfold Builtin.List.listLengthHint
  refine wpAny_bind (wpAny_specialOf ty2 zip_nolen ?_)
  show wpAny _ A.in1.in1 (specialOf (Value.ref zz) (Str.ofString "__length_hint__") >>= _) _ _ _
  refine wpAny_bind (wpAny_specialOf ty2 zip_nohint ?_)
  refine wpAny_pure ?_
  show wpAny _ A.in1.in1 (rule "list.extend.makes-room" >>= fun _ => Builtin.List.listTouch (.ref L) >>= fun _ =>
    again (.builtin "list.extend.loop" ⟨[.ref L, .ref zz, .none], []⟩)) _ _ _
  refine wpAny_bind (wpAny_rule ?_)
  refine wpAny_bind ?_
  show wpAny _ A.in1.in1 (updateSeq L (·.push .none) >>= fun _ => updateSeq L (·.pop)) _ _ _
  refine wpAny_bind (wpAny_updateSeq g2 rfl ?_)
  have g3 := Heap.get?_update_self (Obj.mapSeq (·.push Value.none)) g2 rfl
  refine wpAny_updateSeq (hz := by seq_fits) g3 rfl ?_
  have g4 := Heap.get?_update_self (Obj.mapSeq (·.pop)) g3 rfl
  have kk4 : ∀ b o, b ≠ L → hh2.get? b = some o → ((hh2.update L (Obj.mapSeq (·.push Value.none))).update L (Obj.mapSeq (·.pop))).get? b = some o :=
    fun b o hb e => (Heap.get?_update_other _ _ (Ne.symm hb)).trans ((Heap.get?_update_other _ _ (Ne.symm hb)).trans e)
  have lb : ∀ b o, s.heap.get? b = some o → b ≠ L := fun b o e => by rw [← hL]; exact Nat.ne_of_lt (Heap.lt_size e)
  refine wpAny_pure ⟨plainId_quiet F.plain_extend_loop _, ?_⟩
  refine zg_loop (s := { s with heap := _ }) (base := s.heap) Z D1 D2 h12 lz lI lO m1 m2 q1 q2 hn .none (fun h' tk acc c as kk hl hal hG hacc => ⟨rfl, hQ h' tk acc c as (fun b o h2 h3 h4 h5 e => kk b o (lb b o e) h2 h3 h4 h5 e) hl hal hG hacc⟩)
    n1 0 _ _ _ #[] [] (by omega) (Nat.zero_le _) (st2.keep D1 D2 kk4 (Nat.ne_of_lt lz) (Nat.ne_of_lt lI) (Nat.ne_of_lt lO) q1 q2) (fun b o h1 _ _ _ _ e => kk4 b o h1 (kk2 b o h1 (k0 b o e))) g4 rfl rfl ⟨List.Pairwise.nil, (fun _ ha => nomatch ha), (fun j a hj => by simp at hj)⟩
end
section
variable {X : Cx} {e e2 : Expr} {ta : TA} {p p2 cpos pos : Pos}
theorem vals_back : ∀ {xs : List V} {us : List Value} {i : Nat} {u : Value}, Paired RelV xs us → us[i]? = some u → ∃ x, xs[i]? = some x ∧ RelV x u
  | _, _, i, u, .nil, h => by cases h
  | _, _, 0, u, .cons r t, h => by
    have e := Option.some.inj h
    subst e
    exact ⟨_, rfl, r⟩
  | _, _, i + 1, u, .cons r t, h => vals_back (i := i) t (by simpa using h)
theorem sep5 (n l : Nat) (h : l < n) : ZipSep2 (n + 4) (n + 2) (n + 3) n (n + 1) [n] [n + 1, l] := by
  have ne : ∀ a b : Nat, a < b → ¬ (a : Addr) = b := fun a b h z => Nat.ne_of_lt h z
  have en : ∀ a b : Nat, b < a → ¬ (a : Addr) = b := fun a b h z => Nat.ne_of_gt h z
  have no1 : ∀ a b : Nat, (a < b ∨ b < a) → (a : Addr) ∉ [(b : Addr)] := fun a b h z => by
    have e : a = b := List.mem_singleton.mp z
    omega
  have no2 : ∀ a b c : Nat, (a < b ∨ b < a) → (a < c ∨ c < a) → (a : Addr) ∉ [(b : Addr), (c : Addr)] := fun a b c h1 h2 z => by
    rcases List.mem_cons.mp z with e | e
    · have e : a = b := e
      omega
    · have e : a = c := List.mem_singleton.mp e
      omega
  exact ⟨ne _ _ (by omega), ne _ _ (by omega), ne _ _ (by omega), en _ _ (by omega), List.mem_cons_self, no1 _ _ (by omega), no1 _ _ (by omega), en _ _ (by omega), List.mem_cons_self, no2 _ _ _ (by omega) (by omega), no2 _ _ _ (by omega) (by omega), no2 _ _ _ (by omega) (by omega), no1 _ _ (by omega)⟩
/-- the pairs of the signs of x and of ys -/
def zkv (x : Str) (ys : List V) : List (Key × V) := (x.cps.toList.zip ys).map fun q => (Sum.inr ⟨#[q.1]⟩, q.2)
theorem zkv_len {x : Str} {ys : List V} (h : x.length = ys.length) : (zkv x ys).length = x.length := by
  unfold zkv
  rw [List.length_map, List.length_zip]
  show min x.length ys.length = _
  omega
theorem zkv_at {x : Str} {ys : List V} {j c : Nat} {y : V} (h1 : x.cps[j]? = some c) (h2 : ys[j]? = some y) : (zkv x ys)[j]? = some (Sum.inr ⟨#[c]⟩, y) := by
  unfold zkv
  rw [List.getElem?_map, List.zip_eq_zipWith, List.getElem?_zipWith, Array.getElem?_toList, h1, h2]
  rfl
theorem zip_laid {pins : List (Addr × Obj)} {σ : L2.St} {H : Hp} {s : Shared} {h' : Heap} {tk : Nat} {kvs : List (Key × V)} {acc : Array Value} {c : Nat} {L : Addr} {as : List Addr} (I : Inv X pins σ H s) (hL : s.heap.objs.size ≤ L) (hz : kvs.length ≤ sizeLine)
    (kk : ∀ b o, s.heap.get? b = some o → h'.get? b = some o) (eL : h'.get? L = some { cls := .type "list", dict := none, data := .seq acc c, slots := #[] }) (hl : as.length = kvs.length) (rise : as.Pairwise (· < ·)) (over : ∀ a ∈ as, L < a)
    (prs : ∀ (j : Nat) (a : Addr), as[j]? = some a → ∃ q x y, kvs[j]? = some q ∧ RelV (kV q.1) x ∧ RelV q.2 y ∧ IsTupOf2 h' a x y) (hacc : acc.toList = as.map Value.ref) :
    ∃ H' : Hp, (∀ b o, H b = some o → H' b = some o) ∧ H L = none ∧ (∀ t ∈ as, H t = none) ∧ L ∉ as ∧ H' L = some (.lst (as.map V.ref)) ∧ Paired (fun (t : Addr) (q : Key × V) => H' t = some (.tup [kV q.1, q.2])) as kvs ∧ Inv X pins σ H' { s with heap := h', toks := tk } := by
  have nL : L ∉ as := fun z => Nat.lt_irrefl _ (over _ z)
  have nd : as.Nodup := List.Pairwise.imp (fun {a b} (h : a < b) => Nat.ne_of_lt h) rise
  have newT : ∀ t ∈ as, H t = none := fun t ht => I.hok.fresh (Nat.le_trans hL (Nat.le_of_lt (over t ht)))
  have newL : H L = none := I.hok.fresh hL
  have laid := LiI.putT_at as kvs (upd H L (.lst (as.map V.ref))) hl nd
  have off : ∀ b, b ∉ as → b ≠ L → LiI.putT (upd H L (.lst (as.map V.ref))) as kvs b = H b := fun b q1 q2 => by rw [LiI.putT_off as kvs _ q1, upd_ne q2]
  have low : ∀ b o, s.heap.get? b = some o → b ∉ as ∧ b ≠ L := fun b o e => ⟨fun z => absurd (Heap.lt_size e) (Nat.not_lt.mpr (Nat.le_trans hL (Nat.le_of_lt (over b z)))), fun z => absurd (Heap.lt_size e) (Nat.not_lt.mpr (z ▸ hL))⟩
  have same : ∀ b u, H b = some u → (LiI.putT (upd H L (.lst (as.map V.ref))) as kvs) b = some u := fun b u e => by
    rw [off b (fun z => by rw [newT b z] at e; cases e) (fun z => by rw [z, newL] at e; cases e), e]
  have atL : LiI.putT (upd H L (.lst (as.map V.ref))) as kvs L = some (.lst (as.map V.ref)) := by rw [LiI.putT_off as kvs _ nL, upd_same]
  refine ⟨LiI.putT (upd H L (.lst (as.map V.ref))) as kvs, same, newL, newT, nL, atL, laid, ?_⟩
  refine I.call' (ch := []) rfl ⟨fun b o q _ _ _ => kk b o q, fun b o q _ _ _ => ⟨o.slots, kk b o q⟩, fun b o q n _ => ?_, fun b o q _ => ⟨o, kk b o q⟩, fun b xs q => same b _ q, fun b o u q => same b _ q, fun b ps q => ⟨#[], by rw [same b _ q]; simp⟩⟩ (fun b u q => ?_) I.bare fun b z => by simp at z
  · obtain ⟨z1, z2⟩ := low b o q
    rw [off b z1 z2, n]
  · by_cases hb : b ∈ as
    · obtain ⟨j, pk, e1, e2, e3⟩ := LiI.paired_ix laid hb
      rw [e3] at q
      cases q
      obtain ⟨pq, x, y, g1, g2, g3, g4⟩ := prs j b e1
      rw [e2] at g1
      cases g1
      exact ⟨by show 2 ≤ sizeLine; decide, [x, y], .cons g2 (.cons g3 .nil), ⟨_, g4, rfl, _, rfl⟩⟩
    · by_cases hb2 : b = L
      · rw [hb2] at q ⊢
        rw [atL] at q
        cases q
        refine ⟨by rw [List.length_map, hl]; exact hz, acc.toList, c, by rw [hacc]; exact LiI.vals_refs as, ?_⟩
        rw [Array.toArray_toList]
        exact eL
      · rw [off b hb hb2] at q
        exact (I.hok b u q).stay (fun d v _ y => kk d v y) (fun d y => same d _ y) fun d xs y => same d _ y
def rZipL (K : PySem.W.Frag) : List V → Hp → VK → Prop := fun vs H Q => ∃ (x : Str) (l : Addr) (ys : List V), vs = [.str x, .ref l] ∧ SqL K H l ys ∧ x.length = ys.length ∧ x.length ≤ sizeLine ∧
  ∀ (H' : Hp) (q : Addr) (ts : List Addr), Same H H' → H q = none → (∀ t ∈ ts, H t = none) → q ∉ ts → H' q = some (.lst (ts.map V.ref)) → Paired (fun (t : Addr) (u : Key × V) => H' t = some (.tup [kV u.1, u.2])) ts (zkv x ys) → Q (.ref q) H'
def tLstZ (K : PySem.W.Frag) (ta : TA) : TE := fun σ H Q => ta σ H fun vs H1 => rZipL K vs H1 Q
/-- list(zip(text, list)) -/
theorem pe_listZip (hc : X.calm = true) (ha : PA X [e, e2] ta) (hg : Gl X "list") (hm : X.mg "list" = none) (hv : bootBuiltins "list" = some (.type "list")) (hg2 : Gl X "zip") (hm2 : X.mg "zip" = none)
    (hs : starEach [e, e2] X.env = (false, eval e X.env) :: starEach [e2] X.env := by rfl) (hpl : (backTo cpos (starEach [e2] X.env)).any (·.1) = false := by rfl)
    (na : starEach [.Call (.Name "zip" p2) [e, e2] [] cpos] X.env = (false, eval (.Call (.Name "zip" p2) [e, e2] [] cpos) X.env) :: starEach [] X.env := by rfl) :
    PE X (.Call (.Name "list" p) [.Call (.Name "zip" p2) [e, e2] [] cpos] [] pos) (tLstZ X.K ta) := by
  refine ⟨fun pins s σ H Q I h => ?_⟩
  refine Call_ (ld_blt I hg hm hv ?_)
  refine PyProof.Rows.callWith_type1 (PyProof.Rows.args_cons ?_ na) na rfl
  refine Call_ (ld_blt I hg2 hm2 PyProof.Rows.boot_zip (PyProof.Rows.callWith_type1 (thn (ha.run cpos pins s σ H _ I h) fun us s1 ⟨vs, H1, I1, r1, q1⟩ => ?_) hs hpl))
  obtain ⟨x, l, ys, rfl, hq, hxy, hxz, q⟩ := q1
  cases r1 with
  | cons r rr =>
    cases rr with
    | cons r' rr =>
      cases rr
      obtain ⟨t, rfl⟩ := r
      cases r'
      obtain ⟨its, rv, p1, hiz⟩ := I1.list hq
      have ll : l < s1.heap.objs.size := p1.lt
      have hlen : its.toArray.size = x.cps.size := by
        rw [List.size_toArray, ← rv.length]
        exact hxy.symm
      have D0 : (s1.heap.objs.size : Nat) < s1.heap.objs.size + 1 := Nat.lt_succ_self _
      have hh : X.A.in1.in1.in1.handled = none := I1.ok.hd hc
      refine zip_begins2 (begins_text x t) (begins_list l its.toArray) trivial p1.isList fun h' gz gI gO g1 g2 size kk => PyProof.Rows.args_nil ?_
      have Z := sep5 s1.heap.objs.size l ll
      refine zg_call (n1 := x.cps.size) (n2 := its.toArray.size) (P1 := fun i v => ∃ c u, x.cps[i]? = some c ∧ v = .str ⟨#[c]⟩ u) (P2 := fun i v => its.toArray[i]? = some v) (S1 := fun i h => h.IsStrIter s1.heap.objs.size (strIterType x) x t i) (S2 := fun i h => h.IsListIter (s1.heap.objs.size + 1) l i ∧ h.IsList l its.toArray)
        Z (Draws.text hh _ x t) (Draws.list hh _ l (Nat.ne_of_lt (Nat.lt_succ_of_lt ll)) its.toArray) (by omega) hxz gz gI gO ⟨_, g1, rfl, rfl⟩ ⟨⟨_, g2, rfl, rfl⟩, p1.isList.at fun o e => kk l o e⟩ ?_ ?_ ?_
      · intro c hc
        have e : c = s1.heap.objs.size := by simpa using hc
        subst e
        show _ < h'.objs.size
        omega
      · intro c hc
        show (c : Nat) < h'.objs.size
        have z : c = s1.heap.objs.size + 1 ∨ c = l := by simpa using hc
        have ll' : (l : Nat) < s1.heap.objs.size := ll
        rcases z with z | z
        · rw [size, z]
          exact Nat.add_lt_add_left (by decide) _
        · rw [size, z]
          exact Nat.lt_of_lt_of_le ll' (Nat.le_add_right _ _)
      · intro h2 tk acc c as kp eL hal hG hacc
        dsimp only at kp eL hG ⊢
        have lows : ∀ b o, s1.heap.get? b = some o → h2.get? b = some o := fun b o e => by
          have hb : (b : Nat) < s1.heap.objs.size := Heap.lt_size e
          have far : ∀ k : Nat, b ≠ s1.heap.objs.size + k := fun k z => Nat.ne_of_lt (Nat.lt_of_lt_of_le hb (Nat.le_add_right _ k)) z
          exact kp b o (far 4) (far 3) (far 0) (far 1) (kk b o e)
        obtain ⟨H', k1, k2, k3, k4, k5, k6, J⟩ := zip_laid (tk := tk) (kvs := zkv x ys) I1 (L := h'.objs.size) (by rw [size]; exact Nat.le_add_right _ _) (by rw [zkv_len hxy]; exact hxz) lows eL (by rw [zkv_len hxy]; exact hal) hG.rise hG.over (fun j a hj => by
          obtain ⟨u, v, ⟨cc, uu, e1, e2⟩, e3, e4⟩ := hG.pairs j a hj
          subst e2
          have e3' : its[j]? = some v := by simpa using e3
          obtain ⟨y, hy, ry⟩ := vals_back rv e3'
          exact ⟨_, _, _, zkv_at e1 hy, ⟨_, rfl⟩, ry, e4⟩) hacc
        exact ⟨.ref _, H', J, rfl, q H' _ as k1 k2 k3 k4 k5 k6⟩
end
end Rz

namespace Rz
open PySem PySem.Spec PyProof.Rows L2
/-! ### more of the class's own special methods -/
section
variable {X : Cx} {k : Nat} {f C a dx : Addr} {fs : List (Str × V)} {fd : FuncData} {ps : List Str} {sp : Sp} {pins : List (Addr × Obj)} {σ : L2.St} {H : Hp} {s : Shared}
/-- o += x by the own __iadd__ -/
def tIpO (C : Addr) (sp : Sp) : V → V → Hp → VK → Prop := fun x y H Q => ∃ a dx fs, x = .ref a ∧ H a = some (.ins C dx fs) ∧ sp [x, y] H (fun v H' => (∃ b, v = .ref b) ∧ Q v H') E0
theorem ip_own (M : Meth X.K C "__iadd__" f) (hc : PySem.W.selfFirst X.K C = true) (F : FnOk X.prog X.w X.K X.mg X.base (L2.CX X.prog X.w) k f fd ps sp) (hr : Room k X.A) (hb : Binds X.K fd ps []) : PIp X .Add (tIpO C sp) := by
  intro pins s σ H x y v u Q I r1 r2 h
  obtain ⟨a, dx, fs, rfl, ea, hq⟩ := h
  obtain rfl : v = Value.ref a := r1
  obtain ⟨od, J⟩ := inst_at I ea
  obtain ⟨m0, hF⟩ := I.fr
  refine PySem.W.ksp_inplace hF I.ok.mod.kin J hc M.at_ M.fn (wpAny_mono (run_below (vs := [.ref a, y]) F hr rfl hb I (.cons rfl (.cons r2 .nil)) hq) (fun r s' hv => ?_) fun _ _ z => z)
  obtain ⟨z, H', J', rz, ⟨b, rfl⟩, q⟩ := hv
  obtain rfl : r = Value.ref b := rz
  exact ⟨.ref b, H', J', rfl, q⟩
/-- o[i] = v by the own __setitem__ -/
def tSetO (C : Addr) (sp : Sp) : TSet := fun o i v H Q => ∃ a dx fs, o = .ref a ∧ H a = some (.ins C dx fs) ∧ sp [o, i, v] H (fun _ H' => Q H') E0
theorem set_own (M : Meth X.K C "__setitem__" f) (hn : PySem.W.noSeq X.K C = true) (F : FnOk X.prog X.w X.K X.mg X.base (L2.CX X.prog X.w) k f fd ps sp) (hr : Room k X.A) (hb : Binds X.K fd ps []) : PSet X (tSetO C sp) := by
  intro pins s σ H o i v ov iv u Q I r1 r2 r3 h
  obtain ⟨a, dx, fs, rfl, ea, hq⟩ := h
  obtain rfl : ov = Value.ref a := r1
  obtain ⟨od, J⟩ := inst_at I ea
  obtain ⟨m0, hF⟩ := I.fr
  refine PySem.W.ksp_setItem hF I.ok.mod.kin J hn M.at_ M.fn (wpAny_mono (run_below (vs := [.ref a, i, v]) F hr rfl hb I (.cons rfl (.cons r2 (.cons r3 .nil))) hq) (fun r s' hv => ?_) fun _ _ z => z)
  obtain ⟨z, H', J', rz, q⟩ := hv
  exact ⟨H', J', q⟩
/-- len(x) by the own __len__ -/
def rLenO (C : Addr) (sp : Sp) : List V → Hp → VK → Prop := fun xs H Q => ∃ a dx fs, xs = [.ref a] ∧ H a = some (.ins C dx fs) ∧ sp [.ref a] H (fun v H' => ∃ n : Nat, v = .int n ∧ n < 2 ^ 63 ∧ Q v H') E0
theorem call_lenO (M : Meth X.K C "__len__" f) (F : FnOk X.prog X.w X.K X.mg X.base (L2.CX X.prog X.w) k f fd ps sp) (hr : Room (k + 1) X.A) (hb : Binds X.K fd ps []) : CallR X (.builtin "len") (rLenO C sp) := by
  intro pins s σ H xs us Q I r h
  obtain ⟨a, dx, fs, rfl, ea, hq⟩ := h
  obtain ⟨u, rfl, ru⟩ := vals1 r
  obtain rfl : u = Value.ref a := ru
  obtain ⟨od, J⟩ := inst_at I ea
  obtain ⟨m0, hF⟩ := I.fr
  refine PySem.W.len_K hF I.ok.mod.kin J M.at_ M.fn (wpAny_mono (run_below (vs := [.ref a]) F hr.in1 rfl hb I (.cons rfl .nil) hq) (fun r s' hv => ?_) fun _ _ z => z)
  obtain ⟨z, H', J', rz, n, rfl, hn, q⟩ := hv
  obtain ⟨t, rfl⟩ := rz
  exact ⟨⟨by omega, by omega⟩, .int n, H', J'.tok _, ⟨_, rfl⟩, q⟩
/-- abs(x) by the own __abs__ -/
def rAbsO (C : Addr) (sp : Sp) : List V → Hp → VK → Prop := fun xs H Q => ∃ a dx fs, xs = [.ref a] ∧ H a = some (.ins C dx fs) ∧ sp [.ref a] H Q E0
theorem call_absO (M : Meth X.K C "__abs__" f) (F : FnOk X.prog X.w X.K X.mg X.base (L2.CX X.prog X.w) k f fd ps sp) (hr : Room (k + 1) X.A) (hb : Binds X.K fd ps []) : CallR X (.builtin "abs") (rAbsO C sp) := by
  intro pins s σ H xs us Q I r h
  obtain ⟨a, dx, fs, rfl, ea, hq⟩ := h
  obtain ⟨u, rfl, ru⟩ := vals1 r
  obtain rfl : u = Value.ref a := ru
  obtain ⟨od, J⟩ := inst_at I ea
  refine Calls.call_function_entry kind_abs plain_abs entry_abs (args_abs _) ?_
  unfold Builtin.«abs»
  refine wpAny_bind (m := oneArg "abs" _) (wpAny_pure ?_)
  refine wpAny_bind (m := callSpecial? (.ref a) (Str.ofString "__abs__")) (PySem.W.special_fn I.kIn J M.at_ (beq_iff_eq.mp M.fn) (wpAny_mono (run_below (vs := [.ref a]) F hr.in1 rfl hb I (.cons rfl .nil) hq) (fun r s' hv => ?_) fun _ _ z => z))
  exact wpAny_pure ⟨_, rfl, hv⟩
end
end Rz
namespace Rz
open PySem PySem.Spec PyProof.Rows L2
section
variable {X : Cx} {k : Nat} {fi fn C : Addr} {fdI fdN : FuncData} {psI psN : List Str} {spI spN : Sp} {pins : List (Addr × Obj)} {σ : L2.St} {A1 : Around} {l q it : Addr} {ys : List V} {H0 : Hp} {Rs : Result → Shared → Prop}
/-- a list filled from an iterator over another one -/
theorem lo_loop (hh : A1.handled = none) (hs : SqL X.K H0 l ys) (hz : ys.length ≤ sizeLine) (nq : H0 q = none) (ni : H0 it = none) (ne : it ≠ q)
    (hR : ∀ H s, Inv X pins σ H s → (∀ b o, H0 b = some o → H b = some o) → H q = some (.lst ys) → Rs (.ok (.ret .none)) s) :
    ∀ (j i : Nat) (H : Hp) (s : Shared), ys.length - i = j → i ≤ ys.length → Inv X pins σ H s → (∀ b o, H0 b = some o → H b = some o) → H it = some (ItO l it i) → H q = some (.lst (ys.take i)) →
      codeAny (model X.prog X.w) A1 (.builtin "list.extend.loop" ⟨[.ref q, .ref it, .none], []⟩) Rs s := by
  intro j
  induction j with
  | zero =>
    intro i H s hj hi I S ei eq
    have e0 : i = ys.length := by omega
    subst e0
    obtain ⟨its, rv, pl, _⟩ := I.list (Same.seq (H := H0) (H' := H) (fun b o e => S b o e) hs)
    have ty : s.TypeIs (.ref it) "list_iterator" := ⟨_, itO_get I ei, rfl⟩
    have mu : Mut (H it) := by rw [ei]; exact True.intro
    refine codeAny_builtin PySem.F.entry_extend_loop ?_
    rw [Around.under_plainId PySem.F.plain_extend_loop _]
    show wpAny _ A1.in1 (pyNext (.ref it) >>= _) _ _ s
    refine wpAny_bind ?_
    unfold pyNext
    refine wpAny_bind (wpAny_attempt (wpAny_callSpecial?_slot (name := Str.ofString "__next__") ty slot_listiter_next (wpAny_call_entry slot_listiter_next ty entry_listiter_next
      (GNX.next_end (A := A1.in1) hh (itO_get I ei) pl.isList (by rw [List.getElem?_toArray]; exact rv.none_of (List.getElem?_eq_none (Nat.le_refl _))) fun h1 h' e vs e1 sb kk nn he hv => ?_) (args_listiter_next _))))
    refine wpAny_bind (wpAny_isInstance (T := "StopIteration") (b := true) ⟨_, he, rfl⟩ isSubtype_stop ?_)
    have I2 : Inv X pins σ (upd H it (ItE it ys.length)) { s with heap := h1 } := I.write (x := it) (e := it) (t' := s.toks) mu (.inl rfl) (fun b o nb z => (sb.2 b nb).trans z) ⟨_, e1⟩ (itE_ok e1)
    have I3 : Inv X pins σ (upd H it (ItE it ys.length)) { s with heap := h' } := I2.kept (t' := s.toks) kk
    refine wpAny_pure (wpAny_pure (hR _ _ I3 (fun b o e => ?_) ?_))
    · rw [upd_ne (ne_of_none e ni)]
      exact S b o e
    · rw [upd_ne (Ne.symm ne), eq, List.take_length]
  | succ j ih =>
    intro i H s hj hi I S ei eq
    have hlt : i < ys.length := by omega
    obtain ⟨its, rv, pl, _⟩ := I.list (Same.seq (H := H0) (H' := H) (fun b o e => S b o e) hs)
    obtain ⟨u, hu, ru⟩ := rv.get (List.getElem?_eq_getElem hlt)
    have ty : s.TypeIs (.ref it) "list_iterator" := ⟨_, itO_get I ei, rfl⟩
    have mu : Mut (H it) := by rw [ei]; exact True.intro
    refine codeAny_builtin PySem.F.entry_extend_loop ?_
    rw [Around.under_plainId PySem.F.plain_extend_loop _]
    show wpAny _ A1.in1 (pyNext (.ref it) >>= _) _ _ s
    refine wpAny_bind ?_
    unfold pyNext
    refine wpAny_bind (wpAny_attempt (wpAny_callSpecial?_slot (name := Str.ofString "__next__") ty slot_listiter_next (wpAny_call_entry slot_listiter_next ty entry_listiter_next
      (GNX.next_item (itO_get I ei) pl.isList (by rw [List.getElem?_toArray]; exact hu) fun h' e' sb => wpAny_pure ?_) (args_listiter_next _))))
    have I1 : Inv X pins σ (upd H it (ItO l it (i + 1))) { s with heap := h' } := I.write (x := it) (e := it) (t' := s.toks) mu (.inl rfl) (fun b o nb z => (sb.2 b nb).trans z) ⟨_, e'⟩ (itO_ok e')
    have eq1 : upd H it (ItO l it (i + 1)) q = some (.lst (ys.take i)) := by rw [upd_ne (Ne.symm ne), eq]
    obtain ⟨z, its2, n, r2, hl, e⟩ := I1.lstM eq1
    have ltk : (ys.take i).length = i := by rw [List.length_take]; omega
    have tk1 : ys.take (i + 1) = ys.take i ++ [ys[i]] := by rw [List.take_add_one, List.getElem?_eq_getElem hlt]; rfl
    show wpAny _ A1.in1 (updateSeq q (·.push u) >>= _) _ _ _
    refine wpAny_bind (wpAny_updateSeq e rfl (wpAny_pure ⟨plainId_quiet PySem.F.plain_extend_loop _, ?_⟩) (by rw [List.size_toArray]; omega) (by show (its2.toArray.push u).size ≤ sizeLine + 1; rw [Array.size_push, List.size_toArray]; omega))
    refine ih (i + 1) _ _ (by omega) hlt (I1.lset (its' := its2 ++ [u]) (t' := s.toks) eq1 e (by simp) (r2.append (.cons ru .nil)) (by rw [List.length_append, List.length_singleton]; omega)) (fun b o e => ?_) ?_ ?_
    · rw [upd_ne (ne_of_none e nq), upd_ne (ne_of_none e ni)]
      exact S b o e
    · rw [upd_ne ne, upd_same]
    · rw [upd_same, tk1]
def rListO (K : PySem.W.Frag) (C : Addr) (spI spN : Sp) : List V → Hp → VK → Prop := fun xs H Q => ∃ (a dx : Addr) (fs : List (Str × V)) (l : Addr) (ys : List V) (n : Nat), xs = [.ref a] ∧ H a = some (.ins C dx fs) ∧ SqL K H l ys ∧ n < 2 ^ 63 ∧ Builtin.List.listTooLong n = false ∧
  (∀ (H1 : Hp) (R : VK), Same H H1 → (∀ it, H1 it = none → R (.ref it) (upd H1 it (ItO l it 0))) → spI [.ref a] H1 R E0) ∧ (∀ (H1 : Hp) (R : VK), Same H H1 → R (.int (n : Nat)) H1 → spN [.ref a] H1 R E0) ∧
  ∀ (H' : Hp) (q : Addr), Same H H' → H q = none → H' q = some (.lst ys) → Q (.ref q) H'
theorem hint_own {M : Model} {A : Around} {E : Value → Shared → Prop} {s : Shared} {a : Addr} {Q : Bool → Shared → Prop} {K : PySem.W.Frag} {ox : Obj} {od : Option Obj} (hK : K.In s.heap) (MN : Meth K C "__len__" fn) (J : PySem.W.InstAt s.heap a ox C od)
    (h : wpAny M A (call (.builtin "len") [.ref a]) (fun v s' => ∃ (n : Int) (t : Tok), v = .int n t ∧ Builtin.List.listTooLong n.toNat = false ∧ Q (n != 0) s') (fun _ _ => False) s) : wpAny M A (Builtin.List.listLengthHint (.ref a)) Q E s := by
  unfold Builtin.List.listLengthHint
  refine wpAny_bind (wpAny_bind (J.type.here ((PySem.W.looks_findIn hK MN.at_).here ?_)))
  refine PySem.W.KFB.if_not rfl ?_
  refine PySem.W.KFB.if_so rfl ?_
  refine wpAny_bind (wpAny_rule ?_)
  refine wpAny_bind (wpAny_attempt (wpAny_mono h (fun v s' hv => ?_) fun _ _ z => z.elim))
  obtain ⟨n, t, rfl, hl, q⟩ := hv
  refine wpAny_bind (wpAny_of_eq (a := some n) rfl ?_)
  refine PySem.W.KFB.if_not hl ?_
  exact wpAny_pure q
theorem li_next : typeLookup (.type "list_iterator") "__next__" = pure (some (.builtin "list_iterator.__next__")) := slot_listiter_next.lookup
/-- list(x) by the own __iter__, that yields an iterator over a list, and the own __len__ -/
theorem call_listR (hcalm : X.calm = true) (MI : Meth X.K C "__iter__" fi) (FI : FnOk X.prog X.w X.K X.mg X.base (L2.CX X.prog X.w) k fi fdI psI spI) (bI : Binds X.K fdI psI []) (MN : Meth X.K C "__len__" fn) (FN : FnOk X.prog X.w X.K X.mg X.base (L2.CX X.prog X.w) k fn fdN psN spN) (bN : Binds X.K fdN psN [])
    (hr : Room (k + 3) X.A) : CallR X (.type "list") (rListO X.K C spI spN) := by
  intro pins s σ H xs us Q I r h
  obtain ⟨a, dx, fs, l, ys, n, rfl, ha, hq, hn, hlong, hI, hN, fin⟩ := h
  obtain ⟨u, rfl, ru⟩ := vals1 r
  obtain rfl : u = Value.ref a := ru
  obtain ⟨its0, rv0, pl0, hz⟩ := I.list hq
  have hyz : ys.length ≤ sizeLine := by
    have := rv0.length
    omega
  refine callType_codes (Q₁ := fun obj s₁ => obj = .ref s.heap.objs.size ∧ s₁ = { s with heap := s.heap.push { cls := .type "list", data := .seq #[] } }) PySem.F.called_list (PySem.F.typeCall_list_1 (.ref a)) PySem.F.entry_list_init
    (code_list_new _ ⟨rfl, rfl⟩) fun obj s₁ h₁ => ?_
  obtain ⟨rfl, rfl⟩ := h₁
  have hS : (s.heap.push { cls := .type "list", data := .seq #[] }).get? s.heap.objs.size = some { cls := .type "list", data := .seq #[] } := Heap.get?_push_size _ rfl
  refine ⟨⟨_, hS, rfl⟩, PySem.F.args_list_init_2 _ (.ref a), ?_⟩
  have fr : H s.heap.objs.size = none := I.hok.fresh (Nat.le_refl _)
  have I1 : Inv X pins σ (upd H s.heap.objs.size (.lst [])) { s with heap := s.heap.push { cls := .type "list", data := .seq #[] } } := I.lnew (its := []) (t' := s.toks) .nil (Nat.zero_le _)
  generalize s.heap.objs.size = p at fr I1 hS ⊢
  show wpAny _ X.A.in1.in1 (do let old ← Builtin.List.listItems (.ref p); Builtin.List.listUpdate (.ref p) (fun _ => #[]); letGo old.toList.reverse; Builtin.List.listExtendWith (.ref p) (.ref a) .none) _ _ _
  refine wpAny_bind ?_
  unfold Builtin.List.listItems
  refine wpAny_bind (wpAny_seqItems hS rfl (wpAny_pure ?_))
  show wpAny _ _ (updateSeq p (fun _ => #[]) >>= fun _ => letGo (#[] : Array Value).toList.reverse >>= fun _ => Builtin.List.listExtendWith (.ref p) (.ref a) .none) _ _ _
  refine wpAny_bind (wpAny_updateSeq hS rfl ?_)
  have I2 := I1.lset (f := fun _ => #[]) (its := []) (its' := []) (ys := []) (t' := s.toks) upd_same hS rfl .nil (Nat.zero_le _)
  rw [upd_upd] at I2
  refine wpAny_bind (wpAny_letGo ?_)
  have S2 : Same H (upd H p (.lst [])) := Rz.Same.new (Same.refl H) fr
  have ha2 := S2 _ _ ha
  have hne : p ≠ a := fun z => by
    subst z
    rw [fr] at ha
    cases ha
  obtain ⟨od, J⟩ := inst_at I2 ha2
  obtain ⟨m0, hF⟩ := I2.fr
  unfold Builtin.List.listExtendWith
  refine wpAny_bind (J.type.here ?_)
  have c1 : Builtin.List.listSameRef (.ref p) (.ref a) = false := by simp [Builtin.List.listSameRef, hne]
  have c2 : (Value.ref C == Value.type "list") = false := rfl
  have c3 : (Value.ref C == Value.type "tuple") = false := rfl
  simp only [c1, c2, c3, Bool.or_false, Bool.false_eq_true, if_false]
  refine wpAny_bind (PySem.W.owit_iter hF I2.ok.mod.kin J MI.at_ MI.fn (wpAny_mono (run_below (A := X.A.in1.in1) (vs := [.ref a]) FI (hr.in1.in1.mono (Nat.le_succ k)) rfl bI I2 (.cons rfl .nil)
    (hI _ (fun v H' => ∃ it, v = .ref it ∧ upd H p (.lst []) it = none ∧ H' = upd (upd H p (.lst [])) it (ItO l it 0)) S2 fun it hit => ⟨it, rfl, hit, rfl⟩)) (fun v s' hv => ?_) fun _ _ z => z))
  obtain ⟨x, H3, I3, rx, it, rfl, hit, rfl⟩ := hv
  obtain rfl : v = Value.ref it := rx
  have S3 : Same H (upd (upd H p (.lst [])) it (ItO l it 0)) := Rz.Same.new S2 hit
  have fit : H it = none := by
    cases e : H it with
    | none => rfl
    | some o => rw [S2 _ _ e] at hit; cases hit
  have nip : it ≠ p := fun z => by
    subst z
    rw [upd_same] at hit
    cases hit
  have ty : s'.TypeIs (.ref it) "list_iterator" := ⟨_, itO_get I3 upd_same, rfl⟩
  unfold PySem.W.OwitIt
  refine wpAny_specialOf ty li_next ?_
  refine wpAny_bind (wpAny_holding ?_)
  have ha3 := S3 _ _ ha
  obtain ⟨od3, J3⟩ := inst_at I3 ha3
  obtain ⟨m3, hF3⟩ := I3.fr
  refine hint_own I3.kIn MN J3 (PySem.W.len_K hF3 I3.ok.mod.kin J3 MN.at_ MN.fn (wpAny_mono (run_below (A := X.A.in1.in1.in1) (vs := [.ref a]) (E' := fun _ _ => False) FN hr.in1.in1.in1 rfl bN I3 (.cons rfl .nil)
    (hN _ (fun v H' => v = .int (n : Nat) ∧ H' = upd (upd H p (.lst [])) it (ItO l it 0)) S3 ⟨rfl, rfl⟩)) (fun v s4 hv => ?_) fun _ _ z => z.elim))
  obtain ⟨x, H4, I4, rx, rfl, rfl⟩ := hv
  obtain ⟨t4, rfl⟩ := rx
  refine ⟨⟨by omega, by omega⟩, (n : Nat), s4.toks, rfl, hlong, ?_⟩
  have eq4 : upd (upd H p (.lst [])) it (ItO l it 0) p = some (.lst []) := by rw [upd_ne (Ne.symm nip), upd_same]
  have J4 : Inv X pins σ (upd (upd H p (.lst [])) it (ItO l it 0)) { s4 with toks := s4.toks + 1 } := I4.tok _
  have last : ∀ s5, Inv X pins σ (upd (upd H p (.lst [])) it (ItO l it 0)) s5 → codeAny (model X.prog X.w) X.A.in1 (.builtin "list.extend.loop" ⟨[.ref p, .ref it, .none], []⟩) (wants (fun r s₂ => r = .none ∧ EP X pins σ Q (.ref p) s₂) X.xe) s5 := fun s5 I5 =>
    lo_loop (A1 := X.A.in1) (H0 := H) (Rs := wants (fun r s₂ => r = .none ∧ EP X pins σ Q (.ref p) s₂) X.xe) (I5.ok.hd hcalm) hq hyz fr fit nip (fun H6 s6 I6 S6 e6 => ⟨rfl, .ref p, H6, I6, rfl, fin H6 p (fun b o e => S6 b o e) fr e6⟩) ys.length 0 _ _ (by omega) (Nat.zero_le _) I5 (fun b o e => S3 b o e) upd_same eq4
  obtain ⟨z, its, kk, r3, hl3, e3⟩ := J4.lstM eq4
  cases r3
  refine wpAny_ite_split (fun _ => ?_) (fun _ => wpAny_pure ⟨plainId_quiet PySem.F.plain_extend_loop _, last _ J4⟩)
  refine wpAny_bind (wpAny_rule ?_)
  refine wpAny_bind ?_
  show wpAny _ _ (updateSeq p (·.push .none) >>= fun _ => updateSeq p (·.pop)) _ _ _
  refine wpAny_bind (wpAny_updateSeq e3 rfl ?_)
  have K2 := J4.lset (f := (·.push Value.none)) (its' := [Value.none]) (ys := [.non]) (t' := s4.toks + 1) eq4 e3 (by simp) (.cons rfl .nil) (by rw [List.length_singleton, sizeLine_eq]; decide)
  obtain ⟨z4, its4, k4, r4, hl4, e4⟩ := K2.lstM upd_same
  obtain ⟨u4, rfl, ru4⟩ := r4.one
  refine wpAny_updateSeq e4 rfl ?_ (by show 1 ≤ sizeLine; rw [sizeLine_eq]; decide) (by show 0 ≤ sizeLine + 1; exact Nat.zero_le _)
  refine wpAny_pure ⟨plainId_quiet PySem.F.plain_extend_loop _, last _ ?_⟩
  have K3 := K2.lset (f := (·.pop)) (its := [u4]) (its' := []) (ys := []) (t' := s4.toks + 1) upd_same e4 (by rfl) .nil (Nat.zero_le _)
  rw [upd_upd] at K3
  have back : ∀ (G : Hp), G p = some (.lst []) → upd G p (.lst []) = G := fun G g => by
    funext b
    by_cases hb : b = p
    · rw [hb, upd_same, g]
    · rw [upd_ne hb]
  rw [back _ eq4] at K3
  exact K3
end
end Rz

namespace Rz
open PySem PySem.Spec PyProof.Rows L2
/-! ### max(list of ints, default=d) -/
section
variable {prog : Program} {w : World} {A : Around} {R : Result → Shared → Prop} {I S : Addr} {f1 wr : List Addr} {n : Nat} {P : Nat → Value → Prop} {St : Nat → Heap → Prop} {kw : List (Str × Value)}
theorem mx_name : (toString "max" ++ toString ".loop" : String) = "max.loop" := by decide
theorem mxd_loop (Wk : Walks prog w A.in1 I f1 wr n P St) (bt : Nat → Nat → Bool) (cmp : CmpOf prog w A.in1 .Gt P bt) (sep : S ∉ f1) : ∀ (k j : Nat) (s : Shared) (best : Value) (c : Nat), n - (j + 1) = k → j + 1 ≤ n → St (j + 1) s.heap → P (argBest bt j) best →
    s.heap.get? S = some { cls := .type "list", dict := none, data := .seq #[best, best] c, slots := #[] } →
    (∀ v h' tk, P (argBest bt (n - 1)) v → (∀ b o, b ∉ wr → b ≠ S → s.heap.get? b = some o → h'.get? b = some o) → R (.ok (.ret v)) { s with heap := h', toks := tk }) → codeAny (model prog w) A (.builtin "max.loop" ⟨[.ref I, .none, .ref S], kw⟩) R s := by
  have sepW : S ∉ wr := fun h => sep (Wk.sub _ h)
  intro k
  induction k with
  | zero =>
    intro j s best c hk hj st pb gS fin
    have last : j + 1 = n := by omega
    refine codeAny_builtin F.entry_max_loop ?_
    rw [Around.under_plainId F.plain_max_loop _]
    show wpAny _ A.in1 (seqItems? (.ref S) >>= _) _ _ s
    refine wpAny_bind (wpAny_seqItems gS rfl ?_)
    show wpAny _ A.in1 (tryCatch (pyNext (.ref I)) _ >>= _) _ _ s
    refine wpAny_bind (wpAny_tryCatch (Wk.done s _ _ (last ▸ st) fun h' tk kk => ?_))
    have gS' := kk S _ sepW gS
    show wpAny _ A.in1 (updateSeq S (fun _ => #[]) >>= _) _ _ _
    refine wpAny_bind ?_
    refine wpAny_updateSeq gS' rfl (wpAny_bind (wpAny_letGo (wpAny_pure ?_)))
    refine fin best _ tk (by rw [← last]; exact pb) fun b o nb nS e => (Heap.get?_update_other _ _ (Ne.symm nS)).trans (kk b o nb e)
  | succ k ih =>
    intro j s best c hk hj st pb gS fin
    have lt : j + 1 < n := by omega
    refine codeAny_builtin F.entry_max_loop ?_
    rw [Around.under_plainId F.plain_max_loop _]
    show wpAny _ A.in1 (seqItems? (.ref S) >>= _) _ _ s
    refine wpAny_bind (wpAny_seqItems gS rfl ?_)
    show wpAny _ A.in1 (tryCatch (pyNext (.ref I)) _ >>= _) _ _ s
    refine wpAny_bind (wpAny_tryCatch (Wk.item (j + 1) s _ _ lt st fun v h' tk pv st' kk => ?_))
    have gS' := kk S _ sepW gS
    show wpAny _ A.in1 (tryCatch (holding [v, v] (richCompare .Gt v best >>= _)) _ >>= _) _ _ _
    refine wpAny_bind (wpAny_tryCatch (wpAny_holding (wpAny_bind (cmp (j + 1) (argBest bt j) v best _ _ _ pv pb ?_))))
    refine wpAny_bind (wpAny_holding (wpAny_truthy_bool ?_))
    refine wpAny_bind (wpAny_letGo (wpAny_pure ?_))
    cases better : bt (j + 1) (argBest bt j) with
    | true =>
      simp only [if_true]
      refine wpAny_bind ?_
      refine wpAny_updateSeq gS' rfl (wpAny_bind (wpAny_letGo ?_))
      rw [mx_name]
      refine wpAny_pure ⟨plainId_quiet F.plain_max_loop _, ih (j + 1) _ v _ (by omega) lt (Wk.frame _ _ _ st' fun b hb o e => (Heap.get?_update_other _ _ (fun h : S = b => sep (by rw [h]; exact hb))).trans e) (by simp only [argBest, better, if_true]; exact pv) (Heap.get?_update_self _ gS' rfl)
        fun v' h2 tk2 pv2 kk2 => fin v' h2 tk2 pv2 fun b o nb nS e => kk2 b o nb nS ((Heap.get?_update_other _ _ (Ne.symm nS)).trans (kk b o nb e))⟩
    | false =>
      simp only [Bool.false_eq_true, if_false]
      refine wpAny_bind (wpAny_letGo ?_)
      rw [mx_name]
      refine wpAny_pure ⟨plainId_quiet F.plain_max_loop _, ih (j + 1) _ best c (by omega) lt st' (by simp only [argBest, better, Bool.false_eq_true, if_false]; exact pb) gS'
        fun v' h2 tk2 pv2 kk2 => fin v' h2 tk2 pv2 fun b o nb nS e => kk2 b o nb nS (kk b o nb e)⟩
theorem mxd_first (Wk : Walks prog w A.in1 I f1 wr n P St) (bt : Nat → Nat → Bool) (cmp : CmpOf prog w A.in1 .Gt P bt) (sep : S ∉ f1) (pos : 0 < n) {s : Shared} {c : Nat} (st : St 0 s.heap)
    (gS : s.heap.get? S = some { cls := .type "list", dict := none, data := .seq #[] c, slots := #[] })
    (fin : ∀ v h' tk, P (argBest bt (n - 1)) v → (∀ b o, b ∉ wr → b ≠ S → s.heap.get? b = some o → h'.get? b = some o) → R (.ok (.ret v)) { s with heap := h', toks := tk }) : codeAny (model prog w) A (.builtin "max.loop" ⟨[.ref I, .none, .ref S], kw⟩) R s := by
  have sepW : S ∉ wr := fun h => sep (Wk.sub _ h)
  refine codeAny_builtin F.entry_max_loop ?_
  rw [Around.under_plainId F.plain_max_loop _]
  show wpAny _ A.in1 (seqItems? (.ref S) >>= _) _ _ s
  refine wpAny_bind (wpAny_seqItems gS rfl ?_)
  show wpAny _ A.in1 (tryCatch (pyNext (.ref I)) _ >>= _) _ _ s
  refine wpAny_bind (wpAny_tryCatch (Wk.item 0 s _ _ pos st fun v h' tk pv st' kk => ?_))
  have gS' := kk S _ sepW gS
  show wpAny _ A.in1 (updateSeq S (fun _ => #[v, v]) >>= _) _ _ _
  refine wpAny_bind ?_
  refine wpAny_updateSeq gS' rfl ?_
  rw [mx_name]
  refine wpAny_pure ⟨plainId_quiet F.plain_max_loop _, mxd_loop Wk bt cmp sep _ 0 _ v _ rfl pos (Wk.frame _ _ _ st' fun b hb o e => (Heap.get?_update_other _ _ (fun h : S = b => sep (by rw [h]; exact hb))).trans e) pv (Heap.get?_update_self _ gS' rfl)
    fun v' h2 tk2 pv2 kk2 => fin v' h2 tk2 pv2 fun b o nb nS e => kk2 b o nb nS ((Heap.get?_update_other _ _ (Ne.symm nS)).trans (kk b o nb e))⟩
theorem mxd_none (Wk : Walks prog w A.in1 I f1 wr 0 P St) (sep : S ∉ f1) {s : Shared} {c : Nat} {x : Str} {d : Value} (st : St 0 s.heap)
    (gS : s.heap.get? S = some { cls := .type "list", dict := none, data := .seq #[] c, slots := #[] })
    (fin : ∀ h' tk, (∀ b o, b ∉ wr → b ≠ S → s.heap.get? b = some o → h'.get? b = some o) → R (.ok (.ret d)) { s with heap := h', toks := tk }) : codeAny (model prog w) A (.builtin "max.loop" ⟨[.ref I, .none, .ref S], [(x, d)]⟩) R s := by
  refine codeAny_builtin F.entry_max_loop ?_
  rw [Around.under_plainId F.plain_max_loop _]
  show wpAny _ A.in1 (seqItems? (.ref S) >>= _) _ _ s
  refine wpAny_bind (wpAny_seqItems gS rfl ?_)
  show wpAny _ A.in1 (tryCatch (pyNext (.ref I)) _ >>= _) _ _ s
  refine wpAny_bind (wpAny_tryCatch (Wk.done s _ _ st fun h' tk kk => ?_))
  exact wpAny_bind (wpAny_rule (wpAny_pure (fin h' tk fun b o nb _ e => kk b o nb e)))
end
section
variable {prog : Program} {w : World} {A : Around} {E : Value → Shared → Prop} {s : Shared} {l : Addr} {xs : Array (Int × Tok)} {d : Value}
theorem mxd_args (a d : Value) : argsOk "max" ⟨[a], [("default", d)]⟩ := by unfold argsOk; kernel_rfl
theorem mxd_entry {Q : Value → Shared → Prop} (h : wpAny (model prog w) A.in1 (pyIter (.ref l)) (fun it s2 => ∃ I f1 wr n P St bt, it = .ref I ∧ Walks prog w A.in1 I f1 wr n P St ∧ St 0 s2.heap ∧ (∀ b ∈ f1, b < s2.heap.objs.size) ∧ CmpOf prog w A.in1 .Gt P bt ∧
      (n = 0 → ∀ h' tk, (∀ b o, b ∉ wr → s2.heap.get? b = some o → h'.get? b = some o) → Q d { s2 with heap := h', toks := tk }) ∧
      (0 < n → ∀ v h' tk, P (argBest bt (n - 1)) v → (∀ b o, b ∉ wr → s2.heap.get? b = some o → h'.get? b = some o) → Q v { s2 with heap := h', toks := tk })) E s) :
    wpAny (model prog w) A (call (.builtin "max") [.ref l] [("default", d)]) Q E s := by
  refine wpAny_call (codeAny_call_builtin F.plain_max F.entry_max ?_)
  have e : checkBuiltinCall "max" ⟨[.ref l], [("default", d)]⟩ = pure () := by
    have ha := mxd_args (.ref l) d
    simp only [checkBuiltinCall, F.kind_max]
    unfold argsOk at ha
    cases hs : Manifest.signature? "max" with
    | none => rfl
    | some sig => rw [hs] at ha; exact ha
  rw [e]
  refine wpAny_pure ?_
  show wpAny _ A.in1 (Builtin.Builtins.bindParams "max" ["key", "default"] 0 ⟨[], [("default", d)]⟩ >>= _) _ _ s
  refine wpAny_bind (wpAny_of_eq (show Builtin.Builtins.bindParams "max" ["key", "default"] 0 ⟨[], [("default", d)]⟩ = pure [none, some d] from rfl) ?_)
  refine wpAny_bind (wpAny_pure ?_)
  refine wpAny_bind (wpAny_mono h (fun it s2 h2 => ?_) fun _ _ e => e)
  obtain ⟨I, f1, wr, n, P, St, bt, rfl, Wk, st, below, cmp, q0, q1⟩ := h2
  refine wpAny_bind (wpAny_newObj_type ?_)
  have sep : s2.heap.objs.size ∉ f1 := fun hm => Nat.lt_irrefl _ (below _ hm)
  rw [mx_name]
  have st2 := Wk.frame _ _ _ st fun b _ o e => Heap.get?_push_of_some { cls := .type "list", data := .seq #[] } e
  rcases Nat.eq_zero_or_pos n with z | pos
  · subst z
    exact wpAny_pure ⟨plainId_quiet F.plain_max_loop _, mxd_none Wk sep st2 (Heap.get?_push_size _ rfl) fun h' tk kk => q0 rfl h' tk fun b o nb e => kk b o nb (Nat.ne_of_lt (Heap.lt_size e)) (Heap.get?_push_of_some _ e)⟩
  · exact wpAny_pure ⟨plainId_quiet F.plain_max_loop _, mxd_first Wk bt cmp sep pos st2 (Heap.get?_push_size _ rfl) fun v h' tk pv kk => q1 pos v h' tk pv fun b o nb e => kk b o nb (Nat.ne_of_lt (Heap.lt_size e)) (Heap.get?_push_of_some _ e)⟩
end
section
variable {X : Cx}
def rMaxDef (K : PySem.W.Frag) : List V → List V → Hp → VK → Prop := fun xs zs H Q => ∃ (l : Addr) (ns : List Int) (d : Int), xs = [.ref l] ∧ zs = [.int d] ∧ SqL K H l (ns.map V.int) ∧ (ns = [] → Q (.int d) H) ∧ (∀ m, m ∈ ns → (∀ y, y ∈ ns → y ≤ m) → Q (.int m) H)
theorem call_maxDef (hc : X.calm = true) : CallRK X (.builtin "max") ["default"] (rMaxDef X.K) := by
  intro pins s σ H xs zs us ws Q I r1 r2 h
  obtain ⟨l, ns, d, rfl, rfl, hs, q0, q1⟩ := h
  obtain ⟨its, rv, hl, _⟩ := I.list hs
  obtain ⟨u, rfl, ru⟩ := vals1 r2
  obtain ⟨td, rfl⟩ := ru
  rw [Vals.ref1 r1]
  have hi := rv.ints
  obtain ⟨as, e⟩ := hi.allInts.items
  have hn : numsOf (intItems as).toList = ns := by rw [← e]; exact hi.numsOf
  rw [nums_intItems] at hn
  subst hn
  have hl2 := hl.isList
  rw [e] at hl2
  show wpAny _ _ (call (.builtin "max") [.ref l] [("default", .int d td)]) _ _ _
  refine mxd_entry (iter_intList hl2 fun s2 e st below hlI => ?_)
  subst e
  refine ⟨_, _, _, _, _, _, _, rfl, Walks.list (A := X.A.in1) (I.ok.hd hc) _ l hlI (intItems as), st, below, CmpOf.ints_gt (numAt as) (fun _ _ => intItems_at), fun hz h' tk kk => ?_, fun pos v h' tk pv kk => ?_⟩
  · have e0 : as.size = 0 := by simpa [intItems] using hz
    exact ⟨.int d, H, I.kept (old_kept kk), ⟨_, rfl⟩, q0 (by rw [Array.eq_empty_of_size_eq_zero e0]; rfl)⟩
  · have p0 : 0 < as.size := by simpa [intItems] using pos
    have pv' : (intItems as)[argBest (fun i j => decide (numAt as i > numAt as j)) (as.size - 1)]? = some v := by simpa [intItems] using pv
    obtain ⟨t, rfl⟩ := intItems_at pv'
    obtain ⟨h1, h2⟩ := argBest_gt (numAt as) (as.size - 1)
    refine ⟨.int _, H, I.kept (old_kept kk), ⟨t, rfl⟩, q1 _ ?_ fun a ha => ?_⟩
    · rw [numAt_eq]
      exact PySem.getD_mem (by rw [List.length_map, Array.length_toList]; omega)
    · obtain ⟨j, hj, rfl⟩ := mem_getD ha
      rw [List.length_map, Array.length_toList] at hj
      rw [← numAt_eq]
      exact h2 j (by omega)
end
end Rz

namespace Rz
open PySem PySem.Spec PyProof.Rows L2
/-! ### rows: pairs of a sign's code and a height -/
abbrev Pr := Nat × Int
def prV (p : Pr) : List V := [.str ⟨#[p.1]⟩, .int p.2]
/-- the tuples ts are the pairs ps -/
def PAt (H : Hp) (ts : List Addr) (ps : List Pr) : Prop := Paired (fun (t : Addr) (p : Pr) => H t = some (.tup (prV p))) ts ps
/-- a list of such tuples -/
def LAt (H : Hp) (l : Addr) (ps : List Pr) : Prop := ∃ ts : List Addr, H l = some (.lst (ts.map V.ref)) ∧ PAt H ts ps
/-- a row: its list stands at l -/
def RAt (cR : Addr) (H : Hp) (p l : Addr) (ps : List Pr) : Prop := ∃ dx, H p = some (.ins cR dx [("_pairs", .ref l)]) ∧ LAt H l ps
/-- signs with heights -/
def GoodR (ps : List Pr) : Prop := ∀ p ∈ ps, oddC p.1 = false ∧ 0 ≤ p.2 ∧ p.2 ≤ 9
def tx (ps : List Pr) : Str := ⟨(ps.map (·.1)).toArray⟩
def hts (ps : List Pr) : List Int := ps.map (·.2)
theorem tx_len (ps : List Pr) : (tx ps).length = ps.length := by
  show (ps.map (·.1)).toArray.size = _
  rw [List.size_toArray, List.length_map]
theorem tx_list (ps : List Pr) : (tx ps).cps.toList = ps.map (·.1) := rfl
theorem hts_len (ps : List Pr) : (hts ps).length = ps.length := List.length_map ..
/-- tuples stay -/
def Tups (H H' : Hp) : Prop := ∀ b xs, H b = some (.tup xs) → H' b = some (.tup xs)
theorem Tups.of {H H' : Hp} (h : Same H H') : Tups H H' := fun b _ e => h b _ e
theorem Tups.but {D : List Addr} {H H' : Hp} (h : But D H H') (n : ∀ d ∈ D, ∀ xs, H d ≠ some (.tup xs)) : Tups H H' := fun b xs e => h b _ (fun hb => n b hb xs e) e
theorem Tups.trans {H H1 H2 : Hp} (a : Tups H H1) (b : Tups H1 H2) : Tups H H2 := fun c xs e => b c xs (a c xs e)
theorem Tups.upd {H H' : Hp} {p : Addr} {o : HO} (a : Tups H H') (n : ∀ xs, H' p ≠ some (.tup xs)) : Tups H (L2.upd H' p o) := fun c xs e => by
  have e1 := a c xs e
  rw [upd_ne (fun z => n xs (by rw [← z]; exact e1))]
  exact e1
theorem PAt.keep {H H' : Hp} (h : Tups H H') : ∀ {ts : List Addr} {ps : List Pr}, PAt H ts ps → PAt H' ts ps
  | _, _, .nil => .nil
  | _, _, .cons e t => .cons (h _ _ e) (PAt.keep h t)
theorem PAt.length {H : Hp} {ts : List Addr} {ps : List Pr} (h : PAt H ts ps) : ts.length = ps.length := Paired.length h
theorem PAt.append {H : Hp} : ∀ {ts us : List Addr} {ps qs : List Pr}, PAt H ts ps → PAt H us qs → PAt H (ts ++ us) (ps ++ qs)
  | _, _, _, _, .nil, s => s
  | _, _, _, _, .cons e t, s => .cons e (PAt.append t s)
theorem PAt.set {H : Hp} {t : Addr} {p : Pr} (e : H t = some (.tup (prV p))) : ∀ {ts : List Addr} {ps : List Pr} (i : Nat), PAt H ts ps → PAt H (ts.set i t) (ps.set i p)
  | _, _, _, .nil => .nil
  | _, _, 0, .cons _ r => .cons e r
  | _, _, i + 1, .cons a r => .cons a (PAt.set e i r)
theorem PAt.rep {H : Hp} {ts : List Addr} {ps : List Pr} (h : PAt H ts ps) : ∀ n : Nat, PAt H (List.replicate n ts).flatten (List.replicate n ps).flatten
  | 0 => .nil
  | n + 1 => by
    rw [List.replicate_succ, List.replicate_succ, List.flatten_cons, List.flatten_cons]
    exact PAt.append h (PAt.rep h n)
theorem PAt.get {H : Hp} : ∀ {ts : List Addr} {ps : List Pr} {i : Nat} {t : Addr}, PAt H ts ps → ts[i]? = some t → ∃ p, ps[i]? = some p ∧ H t = some (.tup (prV p))
  | _, _, i, t, .nil, h => by cases h
  | _, _, 0, t, .cons e r, h => by
    have z := Option.some.inj h
    subst z
    exact ⟨_, rfl, e⟩
  | _, _, i + 1, t, .cons e r, h => PAt.get (i := i) r (by simpa using h)
theorem refs_get {ts : List Addr} {i : Nat} {y : V} (h : (ts.map V.ref)[i]? = some y) : ∃ t, ts[i]? = some t ∧ y = .ref t := by
  rw [List.getElem?_map] at h
  cases e : ts[i]? with
  | none => rw [e] at h; cases h
  | some u => rw [e] at h; exact ⟨u, rfl, (Option.some.inj h).symm⟩
theorem LAt.keep {H H' : Hp} {l : Addr} {ps : List Pr} (h : Tups H H') (e : H' l = H l) (a : LAt H l ps) : LAt H' l ps := let ⟨ts, h1, h2⟩ := a; ⟨ts, e.trans h1, h2.keep h⟩
theorem LAt.same {H H' : Hp} {l : Addr} {ps : List Pr} (h : Same H H') (a : LAt H l ps) : LAt H' l ps := let ⟨ts, h1, h2⟩ := a; ⟨ts, h _ _ h1, h2.keep (.of h)⟩
theorem LAt.at {H : Hp} {l : Addr} {ps : List Pr} (a : LAt H l ps) : ∃ ts : List Addr, H l = some (.lst (ts.map V.ref)) ∧ ts.length = ps.length := let ⟨ts, h1, h2⟩ := a; ⟨ts, h1, h2.length⟩
theorem RAt.same {H H' : Hp} {cR p l : Addr} {ps : List Pr} (h : Same H H') (a : RAt cR H p l ps) : RAt cR H' p l ps := let ⟨dx, h1, h2⟩ := a; ⟨dx, h _ _ h1, h2.same h⟩
theorem RAt.keep {H H' : Hp} {cR p l : Addr} {ps : List Pr} (h : Tups H H') (e : H' p = H p) (e2 : H' l = H l) (a : RAt cR H p l ps) : RAt cR H' p l ps := let ⟨dx, h1, h2⟩ := a; ⟨dx, e.trans h1, h2.keep h e2⟩
/-- what list(zip(signs, heights)) gives -/
theorem zkv_pairs {H : Hp} {ts : List Addr} {x : Str} {ns : List Int} (h : Paired (fun (t : Addr) (u : Key × V) => H t = some (.tup [kV u.1, u.2])) ts (zkv x (ns.map V.int))) : PAt H ts (x.cps.toList.zip ns) := by
  unfold zkv at h
  generalize x.cps.toList = cs at h ⊢
  induction cs generalizing ts ns with
  | nil => cases h; exact .nil
  | cons c cs ih =>
    cases ns with
    | nil => cases h; exact .nil
    | cons n ns =>
      cases h with
      | cons e r => exact .cons e (ih r)
theorem join_signs (ps : List Pr) : Txt.join "" (ps.map fun p => (⟨#[p.1]⟩ : Str)) = tx ps := by
  have h := join0 (ps.map fun p => (⟨#[p.1]⟩ : Str))
  have e : ((ps.map fun p => (⟨#[p.1]⟩ : Str)).map fun y => y.cps.toList).flatten = ps.map (·.1) := by
    rw [List.map_map]
    clear h
    induction ps with
    | nil => rfl
    | cons p ps ih => rw [List.map_cons, List.flatten_cons, ih]; rfl
  rw [e] at h
  generalize Txt.join "" (ps.map fun p => (⟨#[p.1]⟩ : Str)) = j at h
  cases j with
  | mk a =>
    have h2 : a = (ps.map (·.1)).toArray := by
      rw [← h]
    rw [h2]
    rfl
theorem zip_tx {z : Str} {ns : List Int} (h : ns.length = z.length) : (z.cps.toList.zip ns).map (·.1) = z.cps.toList := by
  rw [List.map_fst_zip]
  rw [h]
  exact Nat.le_refl _
theorem zip_hts {z : Str} {ns : List Int} (h : ns.length = z.length) : (z.cps.toList.zip ns).map (·.2) = ns := by
  rw [List.map_snd_zip]
  rw [h]
  exact Nat.le_refl _
theorem tx_hts_zip (ps : List Pr) : (tx ps).cps.toList.zip (hts ps) = ps := by
  rw [tx_list]
  induction ps with
  | nil => rfl
  | cons p ps ih =>
    show (p.1, p.2) :: _ = _
    exact congrArg (p :: ·) ih
/-- a height that is none -/
def badH (n : Int) : Bool := decide (n < 0) || decide (9 < n)
/-- what becomes of Row(z, ns) -/
inductive RR | sign (i : Nat) | uneven | height (n : Int) | row
def rr (z : Str) (ns : List Int) : RR := match fo z with
  | some i => .sign i
  | none => if ns.length ≠ z.length then .uneven else match ns.find? badH with
    | some n => .height n
    | none => .row
theorem rr_good {ps : List Pr} (h : GoodR ps) : rr (tx ps) (hts ps) = .row := by
  have e1 : fo (tx ps) = none := fo_none fun j c hj => by
    rw [tx_list, List.getElem?_map] at hj
    cases e : ps[j]? with
    | none => rw [e] at hj; cases hj
    | some p =>
      rw [e] at hj
      have e2 := Option.some.inj hj
      rw [← e2]
      exact (h p (List.mem_of_getElem? e)).1
  have e2 : (hts ps).find? badH = none := by
    rw [List.find?_eq_none]
    intro n hn
    obtain ⟨p, hp, rfl⟩ := List.mem_map.mp hn
    have h2 := (h p hp).2
    unfold badH
    simp
    omega
  unfold rr
  rw [e1]
  dsimp only
  rw [if_neg (by rw [tx_len, hts_len]; simp), e2]
end Rz
namespace Rz
open PySem PySem.Spec PyProof.Rows L2
/-- a comprehension over such a list -/
theorem lc_pairs {K : PySem.W.Frag} {l : Addr} {ps : List Pr} {g : TG} {te : TE} {vs : List Nat} {σ : L2.St} {H1 : Hp} {D : Addr} {Qd : Hp → Prop} (f : Pr → V) (hL : LAt H1 l ps) (hz : ps.length ≤ sizeLine) (hD : H1 D = none)
    (body : ∀ (t : Addr) (p : Pr) (H : Hp) (Q : VK), p ∈ ps → Same H1 H → H t = some (.tup (prV p)) → (∀ H4, Same H H4 → Q (f p) H4) → g (.ref t) (wipe σ vs) H fun σ2 H2 => wipe σ2 vs = wipe σ vs ∧ te σ2 H2 Q)
    (hd : ∀ H, Same H1 H → H D = some (.lst (ps.map f)) → Qd H) :
    ∃ W : Nat → Nat → Hp → Prop, (∃ m, W 0 m (upd H1 D (.lst []))) ∧ ∀ i m H, W i m H →
      ((Itl K l).stop i H ∧ Qd H) ∨ ((Itl K l).go i H ∧ ∃ Nx : Hp → Prop, (∀ H', Nx H' → ∃ m', m' < m ∧ W (i + 1) m' H') ∧ ∀ x H', (Itl K l).yld i H x H' → g x (wipe σ vs) H' fun σ2 H2 => wipe σ2 vs = wipe σ vs ∧ tYes σ2 H2 fun b H3 =>
        if b = true then te σ2 H3 fun y H4 => ∃ acc, H4 D = some (.lst acc) ∧ acc.length < sizeLine ∧ Nx (upd H4 D (.lst (acc ++ [y]))) else Nx H3) := by
  obtain ⟨ts, hl, hP⟩ := hL
  refine lc_list (K := K) (a := l) (xs := ts.map V.ref) (fun i H => Same H1 H ∧ H D = some (.lst ((ps.take i).map f))) ⟨Rz.Same.new (Same.refl H1) hD, upd_same⟩ (fun i H _ h => SqL.of (h.1 _ _ hl)) (fun i x H hx h => ?_) (fun H h => hd H h.1 ?_)
  · obtain ⟨S, e⟩ := h
    obtain ⟨t, ht, rfl⟩ := refs_get hx
    obtain ⟨p, hp, h2⟩ := hP.get ht
    have hi : i < ps.length := (List.getElem?_eq_some_iff.mp hp).1
    refine body t p H _ (List.mem_of_getElem? hp) S (S _ _ h2) fun H4 S4 => ⟨_, S4 _ _ e, ?_, Rz.Same.upd (S.trans S4) hD, ?_⟩
    · rw [List.length_map, List.length_take]
      omega
    · rw [upd_same, List.take_add_one, hp, List.map_append]
      rfl
  · have := h.2
    rw [List.length_map, hP.length, List.take_length] at this
    exact this
end Rz
namespace Rz
open PySem PySem.Spec PyProof.Rows L2
theorem LAt.but {D : List Addr} {H H' : Hp} {l : Addr} {ps : List Pr} (a : LAt H l ps) (B : But D H H') (n : l ∉ D) (t : Tups H H') : LAt H' l ps := let ⟨ts, h1, h2⟩ := a; ⟨ts, B.at h1 n, h2.keep t⟩
theorem RAt.but {D : List Addr} {H H' : Hp} {cR p l : Addr} {ps : List Pr} (a : RAt cR H p l ps) (B : But D H H') (n1 : p ∉ D) (n2 : l ∉ D) (t : Tups H H') : RAt cR H' p l ps := let ⟨dx, h1, h2⟩ := a; ⟨dx, B.at h1 n1, h2.but B n2 t⟩
theorem LAt.upd {H : Hp} {l q : Addr} {ps : List Pr} {o : HO} (a : LAt H l ps) (n : l ≠ q) (t : ∀ xs, H q ≠ some (.tup xs)) : LAt (L2.upd H q o) l ps := let ⟨ts, h1, h2⟩ := a; ⟨ts, by rw [upd_ne n]; exact h1, h2.keep (Tups.upd (fun _ _ e => e) t)⟩
theorem RAt.upd {H : Hp} {cR p l q : Addr} {ps : List Pr} {o : HO} (a : RAt cR H p l ps) (n1 : p ≠ q) (n2 : l ≠ q) (t : ∀ xs, H q ≠ some (.tup xs)) : RAt cR (L2.upd H q o) p l ps := let ⟨dx, h1, h2⟩ := a; ⟨dx, by rw [upd_ne n1]; exact h1, h2.upd n2 t⟩
theorem Dr.but {D : List Addr} {H H' : Hp} {d : Addr} (a : Dr H d) (B : But D H H') (n : d ∉ D) : Dr H' d := let ⟨ns, h1, h2⟩ := a; ⟨ns, B.at h1 n, h2⟩
theorem Dr.upd {H : Hp} {d q : Addr} {o : HO} (a : Dr H d) (n : d ≠ q) : Dr (L2.upd H q o) d := let ⟨ns, h1, h2⟩ := a; ⟨ns, by rw [upd_ne n]; exact h1, h2⟩
theorem LAt.isL {H : Hp} {l : Addr} {ps : List Pr} (a : LAt H l ps) : ∃ xs, H l = some (.lst xs) := let ⟨ts, h1, _⟩ := a; ⟨_, h1⟩
theorem RAt.isI {H : Hp} {cR p l : Addr} {ps : List Pr} (a : RAt cR H p l ps) : ∃ dx fs, H p = some (.ins cR dx fs) := let ⟨dx, h1, _⟩ := a; ⟨dx, _, h1⟩
theorem RAt.lst {H : Hp} {cR p l : Addr} {ps : List Pr} (a : RAt cR H p l ps) : LAt H l ps := let ⟨_, _, h⟩ := a; h
theorem Dr.isL {H : Hp} {d : Addr} (a : Dr H d) : ∃ xs, H d = some (.lst xs) := let ⟨ns, h1, _⟩ := a; ⟨_, h1⟩
/-- a list and a row stand apart -/
theorem apartLI {H : Hp} {l p cR m : Addr} {ps : List Pr} (h : ∃ xs, H l = some (.lst xs)) (r : RAt cR H p m ps) : l ≠ p := by
  obtain ⟨xs, e⟩ := h
  obtain ⟨dx, fs, e2⟩ := r.isI
  exact ne_of e e2 fun z => nomatch z
theorem apartLT {H : Hp} {l t : Addr} {ys : List V} (h : ∃ xs, H l = some (.lst xs)) (e2 : H t = some (.tup ys)) : l ≠ t := by
  obtain ⟨xs, e⟩ := h
  exact ne_of e e2 fun z => nomatch z
theorem apartNew {H : Hp} {x y : Addr} (h : ∃ o, H x = some o) (n : H y = none) : x ≠ y := let ⟨_, e⟩ := h; ne_of_none e n
theorem LAt.some {H : Hp} {l : Addr} {ps : List Pr} (a : LAt H l ps) : ∃ o, H l = Option.some o := let ⟨ts, h1, _⟩ := a; ⟨_, h1⟩
theorem RAt.some {H : Hp} {cR p l : Addr} {ps : List Pr} (a : RAt cR H p l ps) : ∃ o, H p = Option.some o := let ⟨dx, h1, _⟩ := a; ⟨_, h1⟩
theorem Dr.some {H : Hp} {d : Addr} (a : Dr H d) : ∃ o, H d = Option.some o := let ⟨ns, h1, _⟩ := a; ⟨_, h1⟩
theorem not_tupL {H : Hp} {l : Addr} (h : ∃ xs, H l = some (.lst xs)) : ∀ xs, H l ≠ some (.tup xs) := fun ys e => by
  obtain ⟨xs, e2⟩ := h
  rw [e2] at e
  cases e
theorem not_tupI {H : Hp} {cR p l : Addr} {ps : List Pr} (r : RAt cR H p l ps) : ∀ xs, H p ≠ some (.tup xs) := fun ys e => by
  obtain ⟨dx, fs, e2⟩ := r.isI
  rw [e2] at e
  cases e
theorem not_tupN {H : Hp} {p : Addr} (h : H p = none) : ∀ xs, H p ≠ some (.tup xs) := fun ys e => by
  rw [h] at e
  cases e
theorem tups1 {H H' : Hp} {x : Addr} (B : But [x] H H') (n : ∀ xs, H x ≠ some (.tup xs)) : Tups H H' := Tups.but B fun d hd xs => by
  have e : d = x := by simpa using hd
  rw [e]
  exact n xs
theorem nin1 {x y : Addr} (n : x ≠ y) : x ∉ [y] := by simpa using n
end Rz

namespace Rz
open PySem PySem.Spec PyProof.Rows L2
/-! ### slice objects as values; own classes that are asked with slices -/
theorem sl_ga_slot : Slot "slice" "__getattribute__" "slice.__getattribute__" :=
  .of (owner := "slice") (n := "__getattribute__") (by rw [typeLookup_type, builtinLookup_eq_fast]; kernel_rfl) (by decide +kernel) (by decide +kernel) (by decide +kernel) (by first | exact .inl (by decide +kernel) | exact .inr (by decide +kernel)) (by rw [isSubtype_type]; kernel_rfl)
theorem sl_ga_args (a b : Value) : argsOk "slice.__getattribute__" ⟨[a, b], []⟩ := by unfold argsOk; kernel_rfl
theorem sl_ga_entry : entryFor table "slice.__getattribute__" = some Builtin.«object.__getattribute__» := entryFor_alias (id' := "object.__getattribute__") (by kernel_rfl) (by first | rfl | decide +kernel) (by decide +kernel) (by kernel_rfl)
theorem sl_lk_class : typeLookup (.type "slice") "__class__" = pure (some (.builtin "object.__class__")) := by rw [typeLookup_type, builtinLookup_eq_fast]; kernel_rfl
theorem sl_sub_owner : isSubtype (.type "slice") (.type (".".intercalate ("object.__class__".cutAt '.').dropLast)) = pure true := by rw [F.owner_object_class, isSubtype_type]; kernel_rfl
section
variable {prog : Program} {w : World} {A : Around} {E : Value → Shared → Prop} {h : Heap} {g : Array GenState} {d : Drawn} {t : Nat} {os : OsState} {a : Addr} {o : Obj}
theorem sl_class_get {R : Result → Shared → Prop} (hx : h.get? a = some o) (hc : o.cls = .type "slice") (hq : R (.ok (.ret (.type "slice"))) ⟨h, g, d, t, os⟩) : codeAny (model prog w) A (.call (.builtin "getset_descriptor.__get__") ⟨[.builtin "object.__class__", .ref a, .type "slice"], []⟩) R ⟨h, g, d, t, os⟩ := by
  have hTs : (⟨h, g, d, t, os⟩ : Shared).TypeIs (.ref a) "slice" := ⟨_, hx, hc⟩
  have hTg : (⟨h, g, d, t, os⟩ : Shared).TypeIs (.builtin "object.__class__") "getset_descriptor" := F.typeOf_object_class
  have f1 := sl_sub_owner
  refine codeAny_call_builtin F.slot_gs_get.plain F.entry_gs_get (F.slot_gs_get.check _ _ _ _ _ _ _ _ hTg (F.args_gs_get _ _ _) ?_)
  repeat (any_goals (first | assumption | wp_step))
  refine ⟨Code.quiet_builtin _ (by decide +kernel), codeAny_builtin F.entry_object_class ?_⟩
  repeat (any_goals (first | assumption | wp_step))
theorem sl_class_entry {tk : Tok} {Q : Fin → Shared → Prop} (hx : h.get? a = some o) (hc : o.cls = .type "slice") (hq : Q (.done (.ret (.type "slice"))) ⟨h, g, d, t, os⟩) : wpAny (model prog w) A (Builtin.«object.__getattribute__» ⟨[.ref a, .str "__class__" tk], []⟩) Q E ⟨h, g, d, t, os⟩ := by
  have hTs : (⟨h, g, d, t, os⟩ : Shared).TypeIs (.ref a) "slice" := ⟨_, hx, hc⟩
  have hTg : (⟨h, g, d, t, os⟩ : Shared).TypeIs (.builtin "object.__class__") "getset_descriptor" := F.typeOf_object_class
  have f1 := sl_lk_class
  have f2 := F.typeOf_object_class
  have f3 := F.slot_gs_get.lookup
  have f4 := F.slot_gs_set.lookup
  repeat (any_goals (first | assumption | wp_step))
  refine sl_class_get hx hc ?_
  repeat (any_goals (first | assumption | wp_step))
theorem sl_class_call {tk : Tok} {R : Result → Shared → Prop} (hx : h.get? a = some o) (hc : o.cls = .type "slice") (hq : R (.ok (.ret (.type "slice"))) ⟨h, g, d, t, os⟩) : codeAny (model prog w) A (.call (.builtin "slice.__getattribute__") ⟨[.ref a, .str "__class__" tk], []⟩) R ⟨h, g, d, t, os⟩ :=
  codeAny_call_builtin sl_ga_slot.plain sl_ga_entry (sl_ga_slot.check _ _ _ _ _ _ _ _ (show (⟨h, g, d, t, os⟩ : Shared).TypeIs (.ref a) "slice" from ⟨_, hx, hc⟩) (sl_ga_args _ _) (sl_class_entry hx hc hq))
theorem sl_class_by {tk : Tok} {Q : Value → Shared → Prop} (hx : h.get? a = some o) (hc : o.cls = .type "slice") (hq : Q (.type "slice") ⟨h, g, d, t, os⟩) : wpAny (model prog w) A (getAttrBy (.ref a) (.str "__class__" tk) false) Q E ⟨h, g, d, t, os⟩ := by
  have hTs : (⟨h, g, d, t, os⟩ : Shared).TypeIs (.ref a) "slice" := ⟨_, hx, hc⟩
  have f1 := sl_ga_slot.lookup
  have f2 := sl_ga_slot.bind (.ref a)
  repeat (any_goals (first | assumption | wp_step))
  refine sl_class_call hx hc ?_
  repeat (any_goals (first | assumption | wp_step))
theorem sl_class_attr {Q : Option Value → Shared → Prop} (hx : h.get? a = some o) (hc : o.cls = .type "slice") (hq : Q (some (.type "slice")) ⟨h, g, d, t + 1, os⟩) : wpAny (model prog w) A (getAttr? (.ref a) "__class__") Q E ⟨h, g, d, t, os⟩ := by
  unfold getAttr? getAttrBy?
  repeat (any_goals (first | assumption | with_reducible apply sl_class_by hx hc | wp_step))
end
/-- the slice lo:hi stands at a -/
def SlO (a : Addr) (lo hi : Int) : HO := .ext fun h => ∃ t u, h.IsSliceOf a (.int lo t) (.int hi u) .none
theorem slO_ok {P : Program} {w : World} {H : Hp} {h : Heap} {a : Addr} {lo hi : Int} {t u : Tok} (e : h.IsSliceOf a (.int lo t) (.int hi u) .none) : ObjOk P w H h a (SlO a lo hi) := by
  obtain ⟨o, e1, r⟩ := e
  exact ⟨⟨t, u, o, e1, r⟩, ⟨o, e1⟩, fun h1 h2 ⟨t, u, o, e1, r⟩ k => ⟨t, u, o, k _ e1, r⟩⟩
theorem slO_get {X : Cx} {pins : List (Addr × Obj)} {σ : L2.St} {H : Hp} {s : Shared} {a : Addr} {lo hi : Int} (I : Inv X pins σ H s) (e : H a = some (SlO a lo hi)) : ∃ t u, s.heap.IsSliceOf a (.int lo t) (.int hi u) .none := by
  obtain ⟨p, _, _⟩ := (show ObjOk X.prog X.w H s.heap a (SlO a lo hi) from I.hok a _ e)
  exact p
section
variable {X : Cx} {k : Nat} {f C : Addr} {fd : FuncData} {ps : List Str} {sp : Sp}
/-- isinstance(x, T) of a slice -/
theorem call_isiSl : CallR X (.builtin "isinstance") (fun xs H Q => ∃ (a : Addr) (lo hi : Int) (c : V) (u : Value) (b : Bool), xs = [.ref a, c] ∧ ClsV c u ∧ H a = some (SlO a lo hi) ∧ PySem.W.kitOne X.K (.type "slice") u = some b ∧ Q (.bl b) H) := by
  intro pins s σ H xs us Q I r h
  obtain ⟨a, lo, hi, c, u, b, rfl, kc, ea, e, q⟩ := h
  obtain ⟨u1, u2, rfl, r1, r2⟩ := vals2 r
  have e2 := kc.eq r2
  subst e2
  obtain rfl : u1 = Value.ref a := r1
  obtain ⟨t, u, o, e1, hc, _⟩ := slO_get I ea
  have Z : PySem.W.KitX X.K (.ref a) (.type "slice") (PySem.W.KitAt a "slice") := PySem.W.kitx_of PySem.W.kitAt_ty (fun {_ _ _ _ _ s} p k => by obtain ⟨h, g, d, t, os⟩ := s; obtain ⟨o, h1, h2⟩ := p; exact sl_class_attr h1 h2 k)
  exact PySem.W.kia_one Z I.kIn ⟨o, e1, hc⟩ e (fun z => nomatch z) fun tk => ⟨.bl b, H, I.tok tk, rfl, q⟩
/-- xs[s] of a list, s a slice -/
theorem ix_sliceV : IxR X (fun x y H Q => ∃ (p sl : Addr) (lo hi : Int) (xs : List V), x = .ref p ∧ y = .ref sl ∧ SqL X.K H p xs ∧ H sl = some (SlO sl lo hi) ∧ ∀ q, H q = none → Q (.ref q) (upd H q (.lst (cutV xs (some lo) (some hi))))) := by
  intro value slice pins s σ H x y v u Q I rx ry h hs
  obtain ⟨p, sl, lo, hi, xs, rfl, rfl, hq, es, q⟩ := h
  cases rx
  cases ry
  obtain ⟨t, u, hsl⟩ := slO_get I es
  obtain ⟨its, r, pl, hz⟩ := I.list hq
  have hlen := r.length
  refine tail_any (ops := [.ref p, .ref sl]) pl.isList.typeIs slot_list_getitem.lookup ?_ hs
  refine wpAny_getItem_list_slice pl.isList hsl (.int _ _) (.int _ _) .none (by simp) ?_ (by rw [List.size_toArray] <;> omega)
  rw [slicePick_cut, ← hlen]
  refine ⟨.ref s.heap.objs.size, _, I.laid (t' := s.toks) (o := .lst (cutV xs (some lo) (some hi))) (fun b ob q => Heap.get?_push_of_some _ q) (Nat.le_refl _) ?_, rfl, q _ (I.hok.fresh (Nat.le_refl _))⟩
  exact ⟨Nat.le_trans (cutV_length xs _ _) hz, _, 0, (r.drop _).take _, Heap.get?_push_size _ rfl⟩
/-- xs[s] = ys of lists, s a slice -/
theorem set_sliceV : PSet X (fun o i v H Q => ∃ (l b sl : Addr) (lo hi : Int) (xs ys : List V), o = .ref l ∧ i = .ref sl ∧ v = .ref b ∧ H l = some (.lst xs) ∧ H b = some (.lst ys) ∧ H sl = some (SlO sl lo hi) ∧ l ≠ b ∧ 0 ≤ lo ∧ lo ≤ hi ∧ hi ≤ xs.length ∧ xs.length + ys.length ≤ sizeLine ∧
    Q (upd H l (.lst (xs.take lo.toNat ++ ys ++ xs.drop hi.toNat)))) := by
  intro pins s σ H o i v ov iv u Q I r1 r2 r3 h
  obtain ⟨l, b, sl, lo, hi, xs, ys, rfl, rfl, rfl, hl, hb, es, ne, h0, h1, h2, hz, q⟩ := h
  cases r1
  cases r2
  cases r3
  obtain ⟨t, u, hsl⟩ := slO_get I es
  exact set_slice I hl hb ne hsl ⟨_, rfl⟩ ⟨_, rfl⟩ h0 h1 h2 hz fun s' I' => ⟨_, I', q⟩
variable {e : Expr} {lo hi : Expr} {te : TE} {tl th : TE} {pos p2 : Pos}
theorem sub_own {x : Addr} {h₀ : Heap} {L : Addr} {m : Str → Option Value} {od : Option Obj} {ox : Obj} {prog : Program} {w : World} {A : Around} {E : Value → Shared → Prop} {s : Shared} {K : PySem.W.Frag} {value lo hi : Expr} {i : Value} {Q : Value → Shared → Prop} (hF : Fr h₀ L s.heap m) (hX : K.In h₀) (J : PySem.W.InstAt s.heap x ox C od) (M : Meth K C "__getitem__" f) (hn : PySem.W.noSeq K C = true) (hf : PySem.W.fnIn K f = true)
    (h : wpAny (model prog w) A (call (.ref f) [.ref x, i]) Q E s) : wpAny (model prog w) A (subscriptTail value (.Slice (some lo) (some hi) none p2) (.ref x) i) Q E s := by
  have Y := hX.keeps hF.keep
  unfold PySem.W.fnIn at hf
  split at hf
  · rename_i ef
    unfold subscriptTail getitemInPython
    refine wpAny_bind (wpAny_bind (wpAny_bind (J.type.here ((PySem.W.looks_findIn Y M.at_).here ?_))))
    dsimp only
    refine wpAny_bind (wpAny_load (Y _ _ ef) (wpAny_pure ?_))
    dsimp only
    show wpAny _ _ (operate [i, .ref x] (getItem (.ref x) i) >>= _) _ _ _
    refine wpAny_bind (wpAny_operating (PySem.W.getItem_K hF hX J hn M.at_ M.fn (wpAny_mono h (fun v s' z => ?_) fun _ _ z => z)))
    exact wpAny_bind (wpAny_letTemporaryGo (wpAny_pure z))
  · cases hf
theorem fn_in {x qual : Str} {st : Stmt} {g : Addr} {K : PySem.W.Frag} {gd : FuncData} (F : Fun K x qual st g gd) : PySem.W.fnIn K g = true := by
  obtain ⟨_, _, _, _, _, _, _, _, _, _, lk, _⟩ := F.ex
  unfold PySem.W.fnIn
  rw [lk]
/-- x[lo:hi] by the own __getitem__, nothing is raised -/
def tSlG (C : Addr) (sp : Sp) (te tl th : TE) : TE := fun σ H Q => te σ H fun x H1 => tl σ H1 fun l H2 => ∃ i, l = .int i ∧ th σ H2 fun u H3 => ∃ j, u = .int j ∧ ∃ (a dx : Addr) (fs : List (Str × V)), x = .ref a ∧ H3 a = some (.ins C dx fs) ∧ ∀ sl, H3 sl = none → sp [.ref a, .ref sl] (upd H3 sl (SlO sl i j)) Q E0
theorem pe_sliceG (M : Meth X.K C "__getitem__" f) (hn : PySem.W.noSeq X.K C = true) (hf : PySem.W.fnIn X.K f = true) (G : FnOk X.prog X.w X.K X.mg X.base (L2.CX X.prog X.w) k f fd ps sp) (hr : Room k X.A) (hb : Binds X.K fd ps []) (he : PE X e te) (hl : PE X lo tl) (hu : PE X hi th) : PE X (.Subscript e (.Slice (some lo) (some hi) none p2) pos) (tSlG C sp te tl th) := by
  refine ⟨fun pins s σ H Q I h => ?_⟩
  refine Subscript_ (thn (he.run pins s σ H _ I h) fun v s1 ⟨x, H1, I1, r1, q1⟩ => ?_)
  refine wpAny_Slice ?_
  rw [evalPart_some, evalPart_some, evalPart_none]
  refine thn (hl.run pins s1 σ H1 _ I1 q1) fun vl s2 ⟨l, H2, I2, r2, i, el, q2⟩ => thn (hu.run pins s2 σ H2 _ I2 q2) fun vu s3 ⟨u, H3, I3, r3, j, eu, a, dx, fs, ex, ea, q3⟩ => ?_
  subst el eu ex
  obtain ⟨t2, rfl⟩ := r2
  obtain ⟨t3, rfl⟩ := r3
  obtain rfl : v = Value.ref a := r1
  refine wpAny_pure ?_
  have nsl : H3 s3.heap.objs.size = none := I3.hok.fresh (Nat.le_refl _)
  have I4 := I3.laid (t' := s3.toks) (o := SlO s3.heap.objs.size i j) (fun b ob q => Heap.get?_push_of_some { cls := .type "slice", data := .fields #[.int i t2, .int j t3, .none] } q) (Nat.le_refl _) (slO_ok (Heap.IsSliceOf.new ..))
  have ea4 : upd H3 s3.heap.objs.size (SlO s3.heap.objs.size i j) a = some (.ins C dx fs) := by rw [upd_ne (ne_of_none ea nsl)]; exact ea
  obtain ⟨od, J⟩ := inst_at I4 ea4
  obtain ⟨m0, hF⟩ := I4.fr
  exact sub_own hF I4.ok.mod.kin J M hn hf (run_below (vs := [.ref a, .ref s3.heap.objs.size]) G hr rfl hb I4 (.cons rfl (.cons rfl .nil)) (q3 _ nsl))
/-- x[lo:hi] = v by the own __setitem__, nothing is raised -/
def gSlS (C : Addr) (sp : Sp) (te tl th : TE) : TG := fun v σ H Q => te σ H fun x H1 => tl σ H1 fun l H2 => ∃ i, l = .int i ∧ th σ H2 fun u H3 => ∃ j, u = .int j ∧ ∃ (a dx : Addr) (fs : List (Str × V)), x = .ref a ∧ H3 a = some (.ins C dx fs) ∧ ∀ sl, H3 sl = none → sp [.ref a, .ref sl, v] (upd H3 sl (SlO sl i j)) (fun _ H' => Q σ H') E0
theorem pg_sliceS (M : Meth X.K C "__setitem__" f) (hn : PySem.W.noSeq X.K C = true) (G : FnOk X.prog X.w X.K X.mg X.base (L2.CX X.prog X.w) k f fd ps sp) (hr : Room k X.A) (hb : Binds X.K fd ps []) (he : PE X e te) (hl : PE X lo tl) (hu : PE X hi th) : PG X (.Subscript e (.Slice (some lo) (some hi) none p2) pos) (gSlS C sp te tl th) := by
  refine ⟨fun pins s σ H v w Q I r h => ?_⟩
  show wpAny _ _ (do
    let ov ← holding [w] (eval e X.env)
    let iv ← holding [w, ov] (eval (.Slice (some lo) (some hi) none p2) X.env)
    standAt pos
    holding [w, ov, iv] (setItem ov iv w)
    release [iv, w, ov] []) _ _ _
  refine wpAny_bind (wpAny_holding (thn (he.run pins s σ H _ I h) fun ov s1 ⟨x, H1, I1, r1, q1⟩ => ?_))
  refine wpAny_bind (wpAny_holding (wpAny_Slice ?_))
  rw [evalPart_some, evalPart_some, evalPart_none]
  refine thn (hl.run pins s1 σ H1 _ I1 q1) fun vl s2 ⟨l, H2, I2, r2, i, el, q2⟩ => thn (hu.run pins s2 σ H2 _ I2 q2) fun vu s3 ⟨u, H3, I3, r3, j, eu, a, dx, fs, ex, ea, q3⟩ => ?_
  subst el eu ex
  obtain ⟨t2, rfl⟩ := r2
  obtain ⟨t3, rfl⟩ := r3
  obtain rfl : ov = Value.ref a := r1
  refine wpAny_pure ?_
  have nsl : H3 s3.heap.objs.size = none := I3.hok.fresh (Nat.le_refl _)
  have I4 := I3.laid (t' := s3.toks) (o := SlO s3.heap.objs.size i j) (fun b ob q => Heap.get?_push_of_some { cls := .type "slice", data := .fields #[.int i t2, .int j t3, .none] } q) (Nat.le_refl _) (slO_ok (Heap.IsSliceOf.new ..))
  have ea4 : upd H3 s3.heap.objs.size (SlO s3.heap.objs.size i j) a = some (.ins C dx fs) := by rw [upd_ne (ne_of_none ea nsl)]; exact ea
  obtain ⟨od, J⟩ := inst_at I4 ea4
  obtain ⟨m0, hF⟩ := I4.fr
  refine wpAny_bind (wpAny_standAt (wpAny_bind (wpAny_holding (PySem.W.ksp_setItem hF I4.ok.mod.kin J hn M.at_ M.fn (wpAny_mono (run_below (vs := [.ref a, .ref s3.heap.objs.size, v]) G hr rfl hb I4 (.cons rfl (.cons rfl (.cons r .nil))) (q3 _ nsl)) (fun r s' hv => ?_) fun _ _ z => z)))))
  obtain ⟨z, H', J', rz, q⟩ := hv
  exact wpAny_release ⟨σ, H', J', q⟩
/-- x[i] by the own __getitem__, that may raise -/
def tGetO (C : Addr) (sp : Sp) (E : EX) (te ti : TE) : TE := fun σ H Q => te σ H fun x H1 => ti σ H1 fun i H2 => ∃ (a dx : Addr) (fs : List (Str × V)), x = .ref a ∧ H2 a = some (.ins C dx fs) ∧ sp [.ref a, i] H2 Q (E σ)
theorem pe_getO {CX : CXT} {E : EX} {b : Expr} {ti : TE} (M : Meth X.K C "__getitem__" f) (hf : PySem.W.fnIn X.K f = true) (G : FnOk X.prog X.w X.K X.mg X.base CX k f fd ps sp) (hr : Room (k + 1) X.A) (hb : Binds X.K fd ps []) (hx : ∀ σ, PassesAt CX X σ (E σ)) (he : PE X e te) (hi : PE X b ti)
    (hsl : ∀ x i, subscripted b true (.ref x) i = runValue (.builtin "lifetime.subscript" ⟨[.ref x, i], []⟩) := by intro _ _; rfl) : PE X (.Subscript e b pos) (tGetO C sp E te ti) := by
  refine ⟨fun pins s σ H Q I h => ?_⟩
  refine Subscript_ (thn (he.run pins s σ H _ I h) fun v s1 ⟨x, H1, I1, r1, q1⟩ => thn (hi.run pins s1 σ H1 _ I1 q1) fun u s2 ⟨y, H2, I2, r2, a, dx, fs, ex, ea, q2⟩ => ?_)
  subst ex
  obtain rfl : v = Value.ref a := r1
  obtain ⟨od, J⟩ := inst_at I2 ea
  obtain ⟨m0, hF⟩ := I2.fr
  exact PySem.W.sub_K hF I2.ok.mod.kin J M.at_ hf M.fn (wpAny_call (codeAny_mono (run_X (vs := [.ref a, y]) G hr.in1 rfl hb .nil (hx σ) I2 (.cons rfl (.cons r2 .nil)) (by rw [List.append_nil]; exact q2)) fun _ _ hq => ended hq)) (hsl _ _)
/-- x[i] = v by the own __setitem__, that may raise -/
def gSetX (C : Addr) (sp : Sp) (E : EX) (te ti : TE) : TG := fun v σ H Q => te σ H fun x H1 => ti σ H1 fun i H2 => ∃ (a dx : Addr) (fs : List (Str × V)), x = .ref a ∧ H2 a = some (.ins C dx fs) ∧ sp [.ref a, i, v] H2 (fun _ H' => Q σ H') (E σ)
theorem pg_setX {CX : CXT} {E : EX} {b : Expr} {ti : TE} (M : Meth X.K C "__setitem__" f) (hn : PySem.W.noSeq X.K C = true) (G : FnOk X.prog X.w X.K X.mg X.base CX k f fd ps sp) (hr : Room k X.A) (hb : Binds X.K fd ps []) (hx : ∀ σ, PassesAt CX X σ (E σ)) (he : PE X e te) (hi : PE X b ti)
    (ha : ∀ v, assign (.Subscript e b pos) X.env v = (do
      let ov ← holding [v] (eval e X.env)
      let iv ← holding [v, ov] (eval b X.env)
      standAt pos
      holding [v, ov, iv] (setItem ov iv v)
      release [v, ov, iv] []) := by intro _; rfl) : PG X (.Subscript e b pos) (gSetX C sp E te ti) := by
  refine ⟨fun pins s σ H v w Q I r h => ?_⟩
  rw [ha]
  refine wpAny_bind (wpAny_holding (thn (he.run pins s σ H _ I h) fun ov s1 ⟨x, H1, I1, r1, q1⟩ => ?_))
  refine wpAny_bind (wpAny_holding (thn (hi.run pins s1 σ H1 _ I1 q1) fun iv s2 ⟨y, H2, I2, r2, a, dx, fs, ex, ea, q2⟩ => ?_))
  subst ex
  obtain rfl : ov = Value.ref a := r1
  obtain ⟨od, J⟩ := inst_at I2 ea
  obtain ⟨m0, hF⟩ := I2.fr
  refine wpAny_bind (wpAny_standAt (wpAny_bind (wpAny_holding (PySem.W.ksp_setItem hF I2.ok.mod.kin J hn M.at_ M.fn (wpAny_mono (run_XC (vs := [.ref a, y, v]) G hr hb .nil (hx σ) I2 (.cons rfl (.cons r2 (.cons r .nil))) (by rw [List.append_nil]; exact q2)) (fun r s' hv => ?_) fun _ _ z => z)))))
  obtain ⟨z, H', J', rz, q⟩ := hv
  exact wpAny_release ⟨σ, H', J', q⟩
end
end Rz
namespace Rz
open PySem PySem.Spec PyProof.Rows L2
theorem PAt.nth {H : Hp} : ∀ {ts : List Addr} {ps : List Pr} {i : Nat} {p : Pr}, PAt H ts ps → ps[i]? = some p → ∃ t, ts[i]? = some t ∧ H t = some (.tup (prV p))
  | _, _, i, p, .nil, h => by cases h
  | _, _, 0, p, .cons e r, h => by
    have z := Option.some.inj h
    subst z
    exact ⟨_, rfl, e⟩
  | _, _, i + 1, p, .cons e r, h => PAt.nth (i := i) r (by simpa using h)
theorem ref_nth {ts : List Addr} {i : Nat} {t : Addr} (h : ts[i]? = some t) : (ts.map V.ref)[i]? = some (.ref t) := by
  rw [List.getElem?_map, h]
  rfl
theorem PAt.take {H : Hp} : ∀ {ts : List Addr} {ps : List Pr} (n : Nat), PAt H ts ps → PAt H (ts.take n) (ps.take n)
  | _, _, 0, _ => .nil
  | _, _, _ + 1, .nil => .nil
  | _, _, n + 1, .cons e r => .cons e (PAt.take n r)
theorem PAt.drop {H : Hp} : ∀ {ts : List Addr} {ps : List Pr} (n : Nat), PAt H ts ps → PAt H (ts.drop n) (ps.drop n)
  | _, _, 0, h => h
  | _, _, _ + 1, .nil => .nil
  | _, _, n + 1, .cons _ r => PAt.drop n r
theorem cutV_nat {xs : List V} {i j : Nat} (h : i ≤ j) (hj : j ≤ xs.length) : cutV xs (some (i : Int)) (some (j : Int)) = (xs.drop i).take (j - i) := by
  have e1 : HT.sIx xs.length 0 (some (i : Int)) = i := by
    unfold HT.sIx
    simp only
    rw [if_neg (by omega), Int.toNat_natCast]
    omega
  have e2 : HT.sIx xs.length xs.length (some (j : Int)) = j := by
    unfold HT.sIx
    simp only
    rw [if_neg (by omega), Int.toNat_natCast]
    omega
  unfold cutV
  rw [e1, e2]
end Rz

namespace Rz
open PySem PySem.Spec PyProof.Rows L2
/-! ### lists of pairs: joined, cut, copied, written out; the heap is let go of -/
theorem cutV_to {xs : List V} {j : Nat} (hj : j ≤ xs.length) : cutV xs none (some (j : Int)) = xs.take j := by
  have e1 : HT.sIx xs.length 0 none = 0 := rfl
  have e2 : HT.sIx xs.length xs.length (some (j : Int)) = j := by
    unfold HT.sIx
    simp only
    rw [if_neg (by omega), Int.toNat_natCast]
    omega
  unfold cutV
  rw [e1, e2, List.drop_zero, Nat.sub_zero]
theorem cutV_from {xs : List V} {i : Nat} (hi : i ≤ xs.length) : cutV xs (some (i : Int)) none = xs.drop i := by
  have e1 : HT.sIx xs.length 0 (some (i : Int)) = i := by
    unfold HT.sIx
    simp only
    rw [if_neg (by omega), Int.toNat_natCast]
    omega
  have e2 : HT.sIx xs.length xs.length none = xs.length := rfl
  unfold cutV
  rw [e1, e2, List.take_of_length_le (by rw [List.length_drop]; exact Nat.le_refl _)]
/-- len(xs), list(xs) of a list, by names that are not opened -/
@[irreducible] def rLenS (K : PySem.W.Frag) : List V → Hp → VK → Prop := fun xs H Q => ∃ p ys, xs = [.ref p] ∧ SqL K H p ys ∧ Q (.int ys.length) H
theorem call_lenS {X : Cx} : CallR X (.builtin "len") (rLenS X.K) := by
  intro pins s σ H xs us Q I r h
  unfold rLenS at h
  obtain ⟨p, ys, e, h1, q⟩ := h
  exact call_len_seq pins s σ H xs us Q I r ⟨p, ys, e, .inl h1, q⟩
@[irreducible] def rListS (K : PySem.W.Frag) : List V → Hp → VK → Prop := fun xs H Q => ∃ p ys, xs = [.ref p] ∧ SqL K H p ys ∧ ∀ l, H l = none → Q (.ref l) (upd H l (.lst ys))
theorem call_listS {X : Cx} : CallR X (.type "list") (rListS X.K) := by
  intro pins s σ H xs us Q I r h
  unfold rListS at h
  obtain ⟨p, ys, e, h1, q⟩ := h
  exact call_list_of pins s σ H xs us Q I r ⟨p, ys, e, .inl h1, q⟩
section
variable {K : PySem.W.Frag} {H : Hp} {l m : Addr} {us vs : List Pr} {Q : VK}
theorem cat_go (hu : LAt H l us) (hv : LAt H m vs) (hz : us.length + vs.length ≤ 1000000) (k : ∀ (p : Addr) (H' : Hp), H p = none → Same H H' → LAt H' p (us ++ vs) → Q (.ref p) H') : rCat (.ref l) (.ref m) H Q := by
  obtain ⟨ts, e1, P1⟩ := hu
  obtain ⟨ws, e2, P2⟩ := hv
  refine ⟨l, m, _, _, rfl, rfl, e1, e2, by rw [List.length_map, List.length_map, P1.length, P2.length, sizeLine_eq]; omega, fun p hp => ?_⟩
  have S := Rz.Same.new (o := .lst (ts.map V.ref ++ ws.map V.ref)) (Same.refl H) hp
  exact k p _ hp S ⟨ts ++ ws, by rw [upd_same, List.map_append], (P1.append P2).keep (Tups.of S)⟩
theorem to_go {j : Nat} (hu : LAt H l us) (hj : j ≤ us.length) (k : ∀ (p : Addr) (H' : Hp), H p = none → Same H H' → LAt H' p (us.take j) → Q (.ref p) H') : rSlL K (.ref l) none (some (j : Int)) H Q := by
  obtain ⟨ts, e1, P1⟩ := hu
  refine ⟨l, _, rfl, SqL.of e1, fun p hp => ?_⟩
  have S := Rz.Same.new (o := .lst (cutV (ts.map V.ref) none (some (j : Int)))) (Same.refl H) hp
  exact k p _ hp S ⟨ts.take j, by rw [upd_same, cutV_to (by rw [List.length_map, P1.length]; exact hj), List.map_take], (P1.take j).keep (Tups.of S)⟩
theorem from_go {i : Nat} {σ : L2.St} (hu : LAt H l us) (hi : i ≤ us.length) (k : ∀ (p : Addr) (H' : Hp), H p = none → Same H H' → LAt H' p (us.drop i) → Q (.ref p) H') : tNoPart σ H fun u H3 => rSlL K (.ref l) (some (i : Int)) u H3 Q := by
  obtain ⟨ts, e1, P1⟩ := hu
  refine ⟨l, _, rfl, SqL.of e1, fun p hp => ?_⟩
  have S := Rz.Same.new (o := .lst (cutV (ts.map V.ref) (some (i : Int)) none)) (Same.refl H) hp
  exact k p _ hp S ⟨ts.drop i, by rw [upd_same, cutV_from (by rw [List.length_map, P1.length]; exact hi), List.map_drop], (P1.drop i).keep (Tups.of S)⟩
theorem mid_go {i j : Nat} (hu : LAt H l us) (hij : i ≤ j) (hj : j ≤ us.length) (k : ∀ (p : Addr) (H' : Hp), H p = none → Same H H' → LAt H' p ((us.drop i).take (j - i)) → Q (.ref p) H') : rSlL K (.ref l) (some (i : Int)) (some (j : Int)) H Q := by
  obtain ⟨ts, e1, P1⟩ := hu
  refine ⟨l, _, rfl, SqL.of e1, fun p hp => ?_⟩
  have S := Rz.Same.new (o := .lst (cutV (ts.map V.ref) (some (i : Int)) (some (j : Int)))) (Same.refl H) hp
  exact k p _ hp S ⟨(ts.drop i).take (j - i), by rw [upd_same, cutV_nat hij (by rw [List.length_map, P1.length]; exact hj), List.map_take, List.map_drop], ((P1.drop i).take (j - i)).keep (Tups.of S)⟩
/-- list(xs) -/
theorem copy_go (hu : LAt H l us) (k : ∀ (p : Addr) (H' : Hp), H p = none → Same H H' → LAt H' p us → Q (.ref p) H') : rListS K [V.ref l] H Q := by
  obtain ⟨ts, e1, P1⟩ := hu
  unfold rListS
  refine ⟨l, _, rfl, SqL.of e1, fun p hp => ?_⟩
  have S := Rz.Same.new (o := .lst (ts.map V.ref)) (Same.refl H) hp
  exact k p _ hp S ⟨ts, upd_same, P1.keep (Tups.of S)⟩
/-- len(xs) of such a list -/
theorem len_go (hu : LAt H l us) (k : Q (.int (us.length : Nat)) H) : rLenS K [V.ref l] H Q := by
  obtain ⟨ts, e1, P1⟩ := hu
  unfold rLenS
  exact ⟨l, _, rfl, SqL.of e1, by rw [List.length_map, P1.length]; exact k⟩
end
theorem good_take {ps : List Pr} (h : GoodR ps) (n : Nat) : GoodR (ps.take n) := fun p hp => h p (List.mem_of_mem_take hp)
theorem good_drop {ps : List Pr} (h : GoodR ps) (n : Nat) : GoodR (ps.drop n) := fun p hp => h p (List.mem_of_mem_drop hp)
theorem good_cat {ps qs : List Pr} (h : GoodR ps) (g : GoodR qs) : GoodR (ps ++ qs) := fun p hp => (List.mem_append.mp hp).elim (h p) (g p)
theorem good_put {ps : List Pr} {p : Pr} (h : GoodR ps) (g : oddC p.1 = false ∧ 0 ≤ p.2 ∧ p.2 ≤ 9) (i : Nat) : GoodR (ps.set i p) := fun q hq => (List.mem_or_eq_of_mem_set hq).elim (h q) fun e => by rw [e]; exact g
end Rz
namespace Rz
open PySem PySem.Spec PyProof.Rows L2
/-! ### C(..), its wish by a name that is not opened -/
@[irreducible] def MkR (C : Addr) (sp : Sp) (dvs : List V) (E : XK) (vs : List V) (H : Hp) (Q : VK) : Prop := ∀ x dx, H x = none → H dx = none → dx ≠ x → sp (.ref x :: (vs ++ dvs)) (upd (upd H dx (.own x)) x (.ins C dx [])) (fun v H2 => v = .non ∧ Q (.ref x) H2) E
theorem mkR_eq {C : Addr} {sp : Sp} {dvs : List V} {E : XK} {vs : List V} {H : Hp} {Q : VK} : MkR C sp dvs E vs H Q = ∀ x dx, H x = none → H dx = none → dx ≠ x → sp (.ref x :: (vs ++ dvs)) (upd (upd H dx (.own x)) x (.ins C dx [])) (fun v H2 => v = .non ∧ Q (.ref x) H2) E := by
  unfold MkR
  rfl
def tMkR (C : Addr) (sp : Sp) (dvs : List V) (E : EX) (t : TA) : TE := fun σ H Q => t σ H fun vs H1 => MkR C sp dvs (E σ) vs H1 Q
theorem tMkR_eq {C : Addr} {sp : Sp} {dvs : List V} {E : EX} {t : TA} : tMkR C sp dvs E t = tMk C sp dvs E t := by
  funext σ H Q
  unfold tMkR tMk
  simp only [mkR_eq]
section
variable {X : Cx} {CX : CXT} {k : Nat} {f C : Addr} {fd : FuncData} {ps : List Str} {sp : Sp} {dvs : List V} {ds : List Value} {E : EX} {x : Str} {p pos : Pos} {e : Expr} {es : List Expr} {t : TA}
theorem pe_mkR (M : Mk X.K C f) (F : FnOk X.prog X.w X.K X.mg X.base CX k f fd ps sp) (hr : Room (k + 1) X.A) (hg : Gl X x) (hm : X.mg x = some (.ref C)) (hb : Binds X.K fd ps ds) (hd : Vals dvs ds) (hx : ∀ σ, PassesAt CX X σ (E σ))
    (ha : PA X (e :: es) t) (hdb : (x == ("__debug__" : Str)) = false := by decide) (he : starEach (e :: es) X.env = (false, eval e X.env) :: starEach es X.env := by rfl) (hpl : (backTo pos (starEach es X.env)).any (·.1) = false := by rfl) :
    PE X (.Call (.Name x p) (e :: es) [] pos) (tMkR C sp dvs E t) := by
  rw [tMkR_eq]
  exact pe_mk M F hr hg hm hb hd hx ha hdb he hpl
theorem pe_mkR0 (M : Mk X.K C f) (F : FnOk X.prog X.w X.K X.mg X.base CX k f fd ps sp) (hr : Room (k + 1) X.A) (hg : Gl X x) (hm : X.mg x = some (.ref C)) (hb : Binds X.K fd ps ds) (hd : Vals dvs ds) (hx : ∀ σ, PassesAt CX X σ (E σ))
    (hdb : (x == ("__debug__" : Str)) = false := by decide) : PE X (.Call (.Name x p) [] [] pos) (tMkR C sp dvs E tNil) := by
  rw [tMkR_eq]
  exact pe_mk0 M F hr hg hm hb hd hx hdb
end
end Rz
namespace Rz
open PySem PySem.Spec PyProof.Rows L2
theorem drT {H H' : Hp} {d : Addr} (D : Dr H d) (B : But [d] H H') : Tups H H' := Tups.but B fun b hb xs e => by
  have e2 : b = d := by simpa using hb
  obtain ⟨ns, q, _⟩ := D
  rw [e2, q] at e
  cases e
theorem evC {c : Nat} (h : c ∈ abc.cps.toList) : oddC c = false := by
  unfold oddC
  rw [decide_eq_true h]
  rfl
end Rz

namespace Rz
open PySem PySem.Spec PyProof.Rows L2
/-! ### calls of instances of an own class with __call__ -/
section
variable {X : Cx} {CX : CXT} {k n : Nat} {g C : Addr} {fd : FuncData} {ps ks : List Str} {sp : Sp} {dvs : List V} {ds : List Value} {E : EX} {pos : Pos} {e fe : Expr} {es : List Expr} {kws : List Keyword} {tf : TE} {t tk : TA} {gg : List Value → List Value → List Value} {gV : List V → List V → List V}
def tInst (C : Addr) (sp : Sp) (dvs : List V) (E : EX) (tf : TE) (t : TA) : TE := fun σ H Q => tf σ H fun y H1 => ∃ a, y = V.ref a ∧ t σ H1 fun vs H2 => (∃ dx fs, H2 a = some (.ins C dx fs)) ∧ sp (V.ref a :: (vs ++ dvs)) H2 Q (E σ)
theorem pe_inst (c : StX.CallO X.K C g) (F : FnOk X.prog X.w X.K X.mg X.base CX k g fd ps sp) (hr : Room k X.A) (hb : Binds X.K fd ps ds) (hd : Vals dvs ds) (hx : ∀ σ, PassesAt CX X σ (E σ)) (hf : PE X fe tf) (ha : PA X (e :: es) t)
    (ht : eval (.Call fe (e :: es) [] pos) X.env = (do callWith pos (← eval fe X.env) [] (backTo pos (starEach (e :: es) X.env)) (backToKw pos (keywordEach [] X.env))) := by rfl)
    (he : starEach (e :: es) X.env = (false, eval e X.env) :: starEach es X.env := by rfl) (hpl : (backTo pos (starEach es X.env)).any (·.1) = false := by rfl) : PE X (.Call fe (e :: es) [] pos) (tInst C sp dvs E tf t) := by
  refine ⟨fun pins s σ H Q I h => ?_⟩
  refine Call_ (thn (hf.run pins s σ H _ I h) fun u s1 ⟨y, H1, I1, ry, a, ey, q⟩ => ?_) ht
  subst ey
  obtain rfl : u = Value.ref a := ry
  refine StX.callO_with (thn (ha.run pos pins s1 σ H1 _ I1 q) fun us s2 ⟨vs, H2, I2, r, ⟨dx, fs, hi⟩, q2⟩ => ?_) he hpl
  obtain ⟨ox, od, J, hpd⟩ := StX.insC_at I2 (.inr ⟨dx, fs, hi⟩)
  exact ⟨⟨C, ox, od, J, hpd⟩, wpAny_call (PySem.W.kco_code I2.kIn J hpd c.at_ c.fn c.fi (codeAny_mono (run_X (us := .ref a :: us) (vs := .ref a :: vs) F hr rfl hb hd (hx σ) I2 (.cons rfl r) q2) fun _ _ hq => ended hq))⟩
theorem callO_kw {M : Model} {A : Around} {E : Value → Shared → Prop} {s : Shared} {a : Addr} {Q : Value → Shared → Prop} {args : List (Bool × Sem Value)} {kw : List (Option Str × Sem Value)} (hplain : (args.any (·.1) || kw.any (·.1.isNone)) = false)
    (h : wpAny M A (evalArgs (.ref a) true args kw) (fun z s₁ => (∃ C ox od, PySem.W.InstAt s₁.heap a ox C od ∧ ox.data = .plain) ∧ wpAny M A (call (.ref a) ([] ++ z.pos) z.kw) Q E s₁) E s) : wpAny M A (callWith pos (.ref a) [] args kw) Q E s := by
  unfold callWith
  refine wpAny_bind (wpAny_holding (wpAny_mono h (fun z s₁ h₁ => wpAny_bind (wpAny_standAt ?_)) fun _ _ y => y))
  obtain ⟨⟨C, ox, od, J, hpd⟩, h₂⟩ := h₁
  have L := PySem.W.kco_keeper (M := M) J hpd
  simp only [hplain]
  refine wpAny_bind (L.here ?_)
  have fin : ∀ {t : Sem Value}, wpAny M A t Q E s₁ → wpAny M A (t >>= fun r => holding [r] point >>= fun _ => pure r) Q E s₁ :=
    fun hq => wpAny_bind (wpAny_mono hq (fun r s₂ hr => wpAny_bind (wpAny_holding (wpAny_point (wpAny_pure hr)))) fun _ _ y => y)
  exact fin (wpAny_operateT h₂)
/-- f(e, .., k = v) of an instance -/
def tInstK (C : Addr) (n m : Nat) (sp : Sp) (gV : List V → List V → List V) (E : EX) (tf : TE) (t tk : TA) : TE := fun σ H Q => tf σ H fun y H1 => ∃ a, y = V.ref a ∧ t σ H1 fun vs H2 => tk σ H2 fun zs H3 => (∃ dx fs, H3 a = some (.ins C dx fs)) ∧ vs.length + 1 = n ∧ zs.length = m ∧ sp (gV (V.ref a :: vs) zs) H3 Q (E σ)
theorem pe_instK (c : StX.CallO X.K C g) (F : FnOk X.prog X.w X.K X.mg X.base CX k g fd ps sp) (hr : Room k X.A) (hb : KBn X.K fd ps n ks gg gV) (hx : ∀ σ, PassesAt CX X σ (E σ)) (hf : PE X fe tf) (ha : PA X (e :: es) t) (hkw : PK X kws tk)
    (ht : eval (.Call fe (e :: es) kws pos) X.env = (do callWith pos (← eval fe X.env) [] (backTo pos (starEach (e :: es) X.env)) (backToKw pos (keywordEach kws X.env))) := by rfl)
    (hall : (backToKw pos (keywordEach kws X.env)).all (·.1.isSome) = true := by rfl) (hks : (backToKw pos (keywordEach kws X.env)).filterMap (·.1) = ks := by rfl)
    (he : starEach (e :: es) X.env = (false, eval e X.env) :: starEach es X.env := by rfl) (hpl : ((backTo pos (starEach (e :: es) X.env)).any (·.1) || (backToKw pos (keywordEach kws X.env)).any (·.1.isNone)) = false := by rfl) :
    PE X (.Call fe (e :: es) kws pos) (tInstK C n ks.length sp gV E tf t tk) := by
  refine ⟨fun pins s σ H Q I h => ?_⟩
  rw [ht]
  refine wpAny_bind (thn (hf.run pins s σ H _ I h) fun u s1 ⟨y, H1, I1, ry, a, ey, q⟩ => ?_)
  subst ey
  obtain rfl : u = Value.ref a := ry
  refine callO_kw hpl (evalArgs_kw2 hall (thn (ha.run pos pins s1 σ H1 _ I1 q) fun us s2 ⟨vs, H2, I2, r, q2⟩ => thn (hkw.run pos pins s2 σ H2 _ I2 q2) fun ws s3 ⟨zs, H3, I3, rz, ⟨dx, fs, hi⟩, l1, l2, q3⟩ => ?_) he)
  obtain ⟨ox, od, J, hpd⟩ := StX.insC_at I3 (.inr ⟨dx, fs, hi⟩)
  refine ⟨⟨C, ox, od, J, hpd⟩, wpAny_call (PySem.W.kco_code I3.kIn J hpd c.at_ c.fn c.fi ?_)⟩
  rw [hks]
  have ra : Vals (V.ref a :: vs) (Value.ref a :: us) := .cons rfl r
  refine codeAny_mono (F.run X.A X.stack s3 H3 ⟨.ref a :: us, ks.zip ws⟩ (gg (.ref a :: us) ws) (gV (.ref a :: vs) zs) Q (E σ) hr I3.env0 (hb.to s3 _ ws I3.kIn (by rw [List.length_cons, ← r.length]; exact l1) (rz.length.symm.trans l2)) (hb.rel ra rz) q3) fun q s' hq => ?_
  match q, hq with
  | .error er, hq => exact hx σ pins H3 s3 er s' I3 hq
  | .ok (.ret u), hq => exact I3.after hq
  | .ok .next, hq => exact False.elim hq
  | .ok .brk, hq => exact False.elim hq
  | .ok .cont, hq => exact False.elim hq
end
/-- how keywords bind to a def with defaults and no keyword-only parameter -/
theorem kbinds1 {K : PySem.W.Frag} {x qual : Str} {params : Arguments} {body : List Stmt} {scope : Scope} {dvs : List V} {kws : List (Str × V)} {f : Addr} {fd : FuncData} {ps : List Str} (F : FunD K x qual params body scope dvs kws f fd) (n : Nat) (ks : List Str) (g : {α : Type} → List α → List α → List α → List α) (hd : dvs ≠ [])
    (hrel : ∀ {vs dv zs : List V} {us its ws : List Value}, Vals vs us → Vals dv its → Vals zs ws → Vals (g vs dv zs) (g us its ws))
    (h : ∀ (T : Addr) (kV doc pm : Value) (an : Option Addr) (cdv ct : Value) (us its ws : List Value), us.length = n → its.length = dvs.length → ws.length = ks.length →
      ∃ k, bindArgs (PySem.W.fnOf x qual params body scope (.ref T) kV doc pm an cdv ct) ⟨us, ks.zip ws⟩ = seqItems? (.ref T) >>= k ∧ k (some its.toArray) = pure (ps.zip (g us its ws))) : ∃ its : List Value, KBn K fd ps n ks (fun us ws => g us its ws) (fun vs zs => g vs dvs zs) := by
  obtain ⟨oc, od, dV, kV, doc, pm, an, cdv, ct, osl, rfl, lk, hcd, hD, hK⟩ := F.ex
  rcases hD with ⟨e, _⟩ | ⟨_, T, o, its, m, rfl, lT, oT, rT⟩
  · exact absurd e hd
  · refine ⟨its, ⟨fun s us ws X l1 l2 => ?_, fun r1 r2 => hrel r1 rT r2⟩⟩
    obtain ⟨k, e1, e2⟩ := h T kV doc pm an cdv ct us its ws l1 rT.length.symm l2
    exact PySem.W.binds_K X rfl lT oT e1 e2
end Rz
namespace Rz
open PySem PySem.Spec PyProof.Rows L2
theorem fn_inD {x qual : Str} {params : Arguments} {body : List Stmt} {scope : Scope} {dvs : List V} {kws : List (Str × V)} {g : Addr} {K : PySem.W.Frag} {gd : FuncData} (F : FunD K x qual params body scope dvs kws g gd) : PySem.W.fnIn K g = true := by
  obtain ⟨_, _, _, _, _, _, _, _, _, _, _, lk, _⟩ := F.ex
  unfold PySem.W.fnIn
  rw [lk]
end Rz

namespace Rz
open PySem PySem.Spec PyProof.Rows L2
/-! ### a step of a rule, as lists -/
/-- l stands in cs from i on -/
def fitAt (cs l : List Nat) (i : Int) : Bool := decide (0 ≤ i) && ((cs.drop i.toNat).take l.length == l)
theorem fit_iff {cs l : List Nat} {i : Int} : fitAt cs l i = true ↔ 0 ≤ i ∧ (cs.drop i.toNat).take l.length = l := by
  unfold fitAt
  rw [Bool.and_eq_true, decide_eq_true_iff, beq_iff_eq]
theorem fit_len {cs l : List Nat} {i : Int} (h : fitAt cs l i = true) (hl : l ≠ []) : i.toNat + l.length ≤ cs.length := by
  have e := congrArg List.length (fit_iff.mp h).2
  rw [List.length_take, List.length_drop] at e
  have : 0 < l.length := List.length_pos_iff.mpr hl
  omega
theorem starts_fit {x l : Str} {i : Int} (h0 : 0 ≤ i) (hl : l.cps.toList ≠ []) : Txt.startswith3 x l i = fitAt x.cps.toList l.cps.toList i := by
  unfold Txt.startswith3
  have e1 : PySem.fromIndex x.length i = i.toNat := by
    unfold PySem.fromIndex
    rw [if_neg (by omega)]
    omega
  rw [e1, PySem.StrLaws.subAt_eq]
  unfold fitAt
  rw [decide_eq_true h0, Bool.true_and]
  show (decide (i.toNat + l.length ≤ x.length) && ((x.cps.toList.drop i.toNat).take l.length == l.cps.toList)) = ((x.cps.toList.drop i.toNat).take l.length == l.cps.toList)
  cases e : ((x.cps.toList.drop i.toNat).take l.length == l.cps.toList) with
  | false => rw [Bool.and_false]
  | true =>
    have := fit_len (cs := x.cps.toList) (l := l.cps.toList) (i := i) (fit_iff.mpr ⟨h0, beq_iff_eq.mp e⟩) hl
    rw [decide_eq_true (show i.toNat + l.length ≤ x.length from this), Bool.true_and]
/-- the least number of a list -/
def leastL : List Int → Int
  | [] => 0
  | n :: r => r.foldl min n
theorem foldl_min : ∀ (r : List Int) (n : Int), (r.foldl min n = n ∨ r.foldl min n ∈ r) ∧ r.foldl min n ≤ n ∧ ∀ y ∈ r, r.foldl min n ≤ y
  | [], n => ⟨.inl rfl, Int.le_refl _, fun y h => by cases h⟩
  | x :: r, n => by
    obtain ⟨a, b, c⟩ := foldl_min r (min n x)
    refine ⟨?_, Int.le_trans b (Int.min_le_left ..), fun y hy => ?_⟩
    · rcases a with a | a
      · show (r.foldl min (min n x) = n) ∨ (r.foldl min (min n x) ∈ x :: r)
        rw [a]
        by_cases h : n ≤ x
        · exact .inl (Int.min_eq_left h)
        · right
          rw [Int.min_eq_right (by omega)]
          exact List.mem_cons_self
      · exact .inr (List.mem_cons_of_mem _ a)
    · rcases List.mem_cons.mp hy with rfl | hy
      · exact Int.le_trans b (Int.min_le_right ..)
      · exact c y hy
theorem leastL_eq {ns : List Int} {m : Int} (h : m ∈ ns) (hall : ∀ y ∈ ns, m ≤ y) : m = leastL ns := by
  cases ns with
  | nil => cases h
  | cons n r =>
    obtain ⟨a, b, c⟩ := foldl_min r n
    show m = r.foldl min n
    have h1 : m ≤ r.foldl min n := by
      rcases a with a | a
      · rw [a]
        exact hall n List.mem_cons_self
      · exact hall _ (List.mem_cons_of_mem _ a)
    have h2 : r.foldl min n ≤ m := by
      rcases List.mem_cons.mp h with rfl | h
      · exact b
      · exact c m h
    omega
theorem leastL_mem {ns : List Int} (h : ns ≠ []) : leastL ns ∈ ns := by
  cases ns with
  | nil => exact absurd rfl h
  | cons n r =>
    obtain ⟨a, _, _⟩ := foldl_min r n
    show r.foldl min n ∈ n :: r
    rcases a with a | a
    · rw [a]
      exact List.mem_cons_self
    · exact List.mem_cons_of_mem _ a
/-- the least height of the n pairs from i on -/
def leastAt (ps : List Pr) (i n : Nat) : Int := leastL (hts ((ps.drop i).take n))
theorem leastAt_good {ps : List Pr} {i n : Nat} (g : GoodR ps) (h : i + n ≤ ps.length) (hn : 0 < n) : 0 ≤ leastAt ps i n ∧ leastAt ps i n ≤ 9 := by
  have ne : hts ((ps.drop i).take n) ≠ [] := fun z => by
    have := congrArg List.length z
    rw [hts_len, List.length_take, List.length_drop, List.length_nil] at this
    omega
  have m := leastL_mem ne
  unfold hts at m
  obtain ⟨p, hp, e⟩ := List.mem_map.mp m
  have := (g p (List.mem_of_mem_drop (List.mem_of_mem_take hp))).2
  unfold leastAt hts
  rw [← e]
  exact this
/-- the pairs that the step writes -/
def fresh (r : List Nat) (h : Int) : List Pr := r.map fun c => (c, h)
theorem fresh_len (r : List Nat) (h : Int) : (fresh r h).length = r.length := List.length_map ..
theorem fresh_good {r : List Nat} {h : Int} (hr : ∀ c ∈ r, oddC c = false) (h0 : r ≠ [] → 0 ≤ h ∧ h ≤ 9) : GoodR (fresh r h) := fun p hp => by
  unfold fresh at hp
  obtain ⟨c, hc, rfl⟩ := List.mem_map.mp hp
  exact ⟨hr c hc, h0 (List.ne_nil_of_mem hc)⟩
theorem zip_rep (r : List Nat) (h : Int) : r.zip (List.replicate r.length h) = fresh r h := by
  unfold fresh
  induction r with
  | nil => rfl
  | cons c r ih =>
    rw [List.length_cons, List.replicate_succ, List.zip_cons_cons, ih]
    rfl
/-- the row after the step -/
def stepTo (ps : List Pr) (l r : List Nat) (i : Nat) : List Pr := ps.take i ++ fresh r (1 + leastAt ps i l.length) ++ ps.drop (i + l.length)
theorem fo_even {z : Str} (h : fo z = none) : ∀ c ∈ z.cps.toList, oddC c = false := fun c hc => by
  have := List.findIdx?_eq_none_iff.mp h c hc
  simpa using this
theorem rr_fresh {z : Str} {h : Int} (hz : fo z = none) (h0 : z.cps.toList ≠ [] → 0 ≤ h ∧ h ≤ 9) : rr z (List.replicate z.length h) = .row := by
  unfold rr
  rw [hz]
  dsimp only
  rw [if_neg (by rw [List.length_replicate]; simp)]
  have e : (List.replicate z.length h).find? badH = none := by
    rw [List.find?_eq_none]
    intro n hn
    obtain ⟨hne, rfl⟩ := List.mem_replicate.mp hn
    have h1 := h0 (fun e => hne (by
      have : z.cps.toList.length = 0 := by rw [e]; rfl
      rw [len_list] at this
      exact this))
    unfold badH
    simp
    omega
  rw [e]
theorem nodup_le : ∀ {xs z : List Nat}, xs.Nodup → (∀ x ∈ xs, x ∈ z) → xs.length ≤ z.length
  | [], z, _, _ => Nat.zero_le _
  | x :: xs, z, nd, h => by
    have hx := h x List.mem_cons_self
    have nd2 := List.nodup_cons.mp nd
    have ih := nodup_le (xs := xs) (z := z.erase x) nd2.2 fun y hy => (List.mem_erase_of_ne (fun e => nd2.1 (by rw [← e]; exact hy))).mpr (h y (List.mem_cons_of_mem _ hy))
    rw [List.length_erase_of_mem hx] at ih
    have : 0 < z.length := List.length_pos_of_mem hx
    rw [List.length_cons]
    omega
end Rz

namespace Rz
open PySem PySem.Spec PyProof.Rows L2
/-! ### making an instance whose __init__ has a star; class methods -/
section
variable {P : Program} {w : World} {K : PySem.W.Frag} {mg : Str → Option Value} {base : Heap} {CX : CXT} {k : Nat} {f : Addr} {fd : FuncData} {ps : List Str} {sp : Sp}
/-- the promise of a def that is called by position -/
theorem fnr_of (F : FnOk P w K mg base CX k f fd ps sp) (hb : Binds K fd ps []) : FnR P w K mg base CX k f sp := by
  intro A outer s H us vs Q E hr e0 r h
  have hl : us.length = ps.length := r.length.symm.trans (F.len _ _ _ _ h)
  have hbb := hb s us (e0.mod.kin.keeps fun b o e => (e0.bs b o e).1) (by rw [List.append_nil]; exact hl)
  rw [List.append_nil] at hbb
  exact F.run A outer s H ⟨us, []⟩ us vs Q E hr e0 hbb r h
end
/-- a new instance, by a positional promise of __init__ -/
@[irreducible] def MkS (C : Addr) (sp : Sp) (E : XK) (vs : List V) (H : Hp) (Q : VK) : Prop := ∀ x dx, H x = none → H dx = none → dx ≠ x →
  sp (V.ref x :: vs) (upd (upd H dx (.own x)) x (.ins C dx [])) (fun v H2 => v = .non ∧ Q (.ref x) H2) E
theorem mkS_eq {C : Addr} {sp : Sp} {E : XK} {vs : List V} {H : Hp} {Q : VK} : MkS C sp E vs H Q = ∀ x dx, H x = none → H dx = none → dx ≠ x →
  sp (V.ref x :: vs) (upd (upd H dx (.own x)) x (.ins C dx [])) (fun v H2 => v = .non ∧ Q (.ref x) H2) E := by
  unfold MkS
  rfl
def tMkS (C : Addr) (sp : Sp) (E : EX) (t : TA) : TE := fun σ H Q => t σ H fun vs H1 => MkS C sp (E σ) vs H1 Q
def tMkSL (i : Nat) (C : Addr) (sp : Sp) (E : EX) (t : TA) : TE := fun σ H Q => σ[i]? = some (some (.ref C)) ∧ t σ H fun vs H1 => MkS C sp (E σ) vs H1 Q
/-- C.m(..), m a classmethod -/
def tCm (C : Addr) (sp : Sp) (E : EX) (ta : TE) (t : TA) : TE := fun σ H Q => ta σ H fun x H1 => x = .ref C ∧ t σ H1 fun vs H2 => sp (.ref C :: vs) H2 Q (E σ)
section
variable {X : Cx} {CX : CXT} {k i : Nat} {f C : Addr} {sp : Sp} {E : EX} {x m : Str} {e o : Expr} {es : List Expr} {te ta : TE} {t : TA} {p pos sp_ apos : Pos} {q g : Addr} {mc : Value}
theorem run_fnRA {pins : List (Addr × Obj)} {σ : L2.St} {H : Hp} {s : Shared} {Q : VK} {E : XK} {us : List Value} {vs : List V} (F : FnR X.prog X.w X.K X.mg X.base CX k f sp) (hr : Room k X.A) (hx : PassesAt CX X σ E) (I : Inv X pins σ H s) (r : Vals vs us) (h : sp vs H Q E) :
    codeAny (model X.prog X.w) X.A (.call (.ref f) ⟨us, []⟩) (fun r s' => match r with | .ok (.ret v) => EP X pins σ Q v s' | .ok _ => False | .error e => X.xe e s') s := by
  refine codeAny_mono (F X.A X.stack s H us vs Q E hr I.env0 r h) fun q s' hq => ?_
  match q, hq with
  | .error er, hq => exact hx pins H s er s' I hq
  | .ok (.ret u), hq => exact I.after hq
  | .ok .next, hq => exact False.elim hq
  | .ok .brk, hq => exact False.elim hq
  | .ok .cont, hq => exact False.elim hq
theorem run_mkS {pins : List (Addr × Obj)} {σ : L2.St} {H : Hp} {s : Shared} {Q : VK} {E : XK} {us : List Value} {vs : List V} (M : Mk X.K C f) (F : FnR X.prog X.w X.K X.mg X.base CX k f sp) (hr : Room (k + 1) X.A) (hx : PassesAt CX X σ E) (I : Inv X pins σ H s) (r : Vals vs us)
    (h : MkS C sp E vs H Q) : wpAny (model X.prog X.w) X.A (call (.ref C) us) (EP X pins σ Q) X.xe s := by
  rw [mkS_eq] at h
  have hq := h (s.heap.objs.size + 1) s.heap.objs.size (I.hok.fresh (Nat.le_succ _)) (I.hok.fresh (Nat.le_refl _)) (Nat.ne_of_lt (Nat.lt_succ_self _))
  have I2 := Inv.made (C := C) I
  have r2 : Vals (V.ref (s.heap.objs.size + 1) :: vs) (Value.ref (s.heap.objs.size + 1) :: us) := .cons rfl r
  refine wpAny_call (make_map (f := f) I.kIn M.makes M.init (beq_iff_eq.mp M.fn) (codeAny_mono (F _ X.stack _ _ (Value.ref (s.heap.objs.size + 1) :: us) _ _ E (hr.make C us []) (I2.env0.make C us []) r2 hq) fun r s' hq' => ?_))
  cases r with
  | error e => exact hx pins _ _ e s' I2 hq'
  | ok fl =>
    cases fl with
    | ret u =>
      obtain ⟨v, H', I3, rv, ev, q3⟩ := I2.after hq'
      subst ev
      exact ⟨rv, ⟨V.ref (s.heap.objs.size + 1), H', I3, rfl, q3⟩⟩
    | next => exact False.elim hq'
    | brk => exact False.elim hq'
    | cont => exact False.elim hq'
theorem pe_mkS (M : Mk X.K C f) (F : FnR X.prog X.w X.K X.mg X.base CX k f sp) (hr : Room (k + 1) X.A) (hg : Gl X x) (hm : X.mg x = some (.ref C)) (hx : ∀ σ, PassesAt CX X σ (E σ)) (ha : PA X (e :: es) t) (hdb : (x == ("__debug__" : Str)) = false := by decide)
    (he : starEach (e :: es) X.env = (false, eval e X.env) :: starEach es X.env := by rfl) (hpl : (backTo pos (starEach es X.env)).any (·.1) = false := by rfl) : PE X (.Call (.Name x p) (e :: es) [] pos) (tMkS C sp E t) := ⟨fun pins s σ H Q I h =>
  wpAny_Call_Name_kw (ld_glob I hg hm (PySem.W.callWith_K (h₀ := X.base) I.ok.mod.kin M.kp (thn (ha.run pos pins s σ H _ I h) fun us s1 ⟨vs, H1, J, r, q⟩ => ⟨J.kIn, run_mkS M F hr (hx σ) J r q⟩) he hpl) hdb)⟩
theorem pe_mkS0 (M : Mk X.K C f) (F : FnR X.prog X.w X.K X.mg X.base CX k f sp) (hr : Room (k + 1) X.A) (hg : Gl X x) (hm : X.mg x = some (.ref C)) (hx : ∀ σ, PassesAt CX X σ (E σ)) (hdb : (x == ("__debug__" : Str)) = false := by decide) :
    PE X (.Call (.Name x p) [] [] pos) (tMkS C sp E tNil) := ⟨fun pins s σ H Q I h =>
  wpAny_Call_Name_kw (ld_glob I hg hm (PySem.W.callWith_K0 I.kIn M.kp (run_mkS (us := []) M F hr (hx σ) I .nil h)) hdb)⟩
/-- x() where the local x is the class -/
theorem pe_mkSL0 (M : Mk X.K C f) (F : FnR X.prog X.w X.K X.mg X.base CX k f sp) (hr : Room (k + 1) X.A) (hN : X.N[i]? = some x) (hv : Vis X.env.scope x) (hx : ∀ σ, PassesAt CX X σ (E σ))
    (hdb : (x == ("__debug__" : Str)) = false := by decide) (hcd : (x == ("__classdict__" : Str)) = false := by decide) : PE X (.Call (.Name x p) [] [] pos) (tMkSL i C sp E tNil) := by
  refine ⟨fun pins s σ H Q I h => ?_⟩
  obtain ⟨hs, ht⟩ := h
  refine wpAny_Call_Name_kw (thn ((pe_var (pos := p) hN hv hdb hcd).run pins s σ H (fun v H1 => v = .ref C ∧ H1 = H) I ⟨.ref C, hs, rfl, rfl⟩) fun u s1 ⟨v, H1, I1, r1, q1⟩ => ?_)
  obtain ⟨rfl, rfl⟩ := q1
  cases r1
  exact PySem.W.callWith_K0 I1.kIn M.kp (run_mkS (us := []) M F hr (hx σ) I1 .nil ht)
/-- x(*y) where the local x is the class -/
theorem pe_mkSLs (M : Mk X.K C f) (F : FnR X.prog X.w X.K X.mg X.base CX k f sp) (hr : Room (k + 1) X.A) (hN : X.N[i]? = some x) (hv : Vis X.env.scope x) (hx : ∀ σ, PassesAt CX X σ (E σ)) (he : PE X e te)
    (hdb : (x == ("__debug__" : Str)) = false := by decide) (hcd : (x == ("__classdict__" : Str)) = false := by decide) (hst : starEach [.Starred e sp_] X.env = [(true, eval e X.env)] := by rfl) :
    PE X (.Call (.Name x p) [.Starred e sp_] [] pos) (tMkSL i C sp E fun σ H Q => te σ H fun y H1 => ∃ a xs, y = V.ref a ∧ (SqT X.K H1 a xs ∨ SqL X.K H1 a xs) ∧ Q xs H1) := by
  refine ⟨fun pins s σ H Q I h => ?_⟩
  obtain ⟨hs, ht⟩ := h
  refine wpAny_Call_Name_kw (thn ((pe_var (pos := p) hN hv hdb hcd).run pins s σ H (fun v H1 => v = .ref C ∧ H1 = H) I ⟨.ref C, hs, rfl, rfl⟩) fun u s1 ⟨v, H1, I1, r1, q1⟩ => ?_)
  obtain ⟨rfl, rfl⟩ := q1
  cases r1
  refine PySem.W.callWith_S (h₀ := X.base) I.ok.mod.kin M.kp (thn (he.run pins s1 σ _ _ I1 ht) fun v s2 ⟨y, H2, I2, ry, a, xs, ey, hxs, q⟩ => ?_) hst
  subst ey
  obtain rfl : v = Value.ref a := ry
  exact StX.star_any I2 hxs fun us s3 I3 rv => ⟨I3.kIn, run_mkS M F hr (hx σ) I3 rv q⟩
theorem pe_cm {pl : Sem Bool} (he : PE X o ta) (r : ClX.CRead X.K C mc) (c : ClX.CMet X.K C mc m q g) (F : FnR X.prog X.w X.K X.mg X.base CX k g sp) (hr : Room k X.A) (hx : ∀ σ, PassesAt CX X σ (E σ)) (ha : PA X (e :: es) t)
    (hst : starEach (e :: es) X.env = (false, eval e X.env) :: starEach es X.env := by rfl) (hpl : (backTo pos (starEach es X.env)).any (·.1) = false := by rfl)
    (ht : eval (.Call (.Attribute o m apos) (e :: es) [] pos) X.env = (do
      let ov ← eval o X.env
      standAt apos.atName
      let (f, first) ← holding [ov] (getMethod ov m pl)
      callWith pos f first (backTo pos (starEach (e :: es) X.env)) (backToKw pos (keywordEach [] X.env))) := by rfl) :
    PE X (.Call (.Attribute o m apos) (e :: es) [] pos) (tCm C sp E ta t) := by
  refine ⟨fun pins s σ H Q I h => ?_⟩
  refine PySem.W.methodCall_KW (pl := pl) (thn (he.run pins s σ H _ I h) fun u s1 ⟨x, H1, I1, rx, ex, q⟩ => ?_) ht
  subst ex
  obtain rfl : u = Value.ref C := rx
  refine ClX.getmethcm_ok I1 r c fun s2 I2 => ?_
  refine ClX.callwith_cm I2 (ClX.base_none I1 (Nat.le_refl _)) c.fi (thn (ha.run pos _ s2 σ H1 _ I2 q) fun us s3 ⟨vs, H2, I3, rv, q2⟩ => ⟨⟨ClX.pin_at I3, I3.kIn⟩, ?_⟩) hst hpl
  have z : wpAny (model X.prog X.w) X.A (call (.ref _) us) (EP X ((_, PySem.W.methodObj (.ref g) (.ref C)) :: pins) σ Q) X.xe s3 :=
    wpAny_call (PySem.W.method_call (ClX.pin_at I3) (run_fnRA (us := .ref C :: us) (vs := .ref C :: vs) F hr (hx σ) I3 (.cons rfl rv) q2))
  exact thn z fun _ _ y => ClX.unpinE y
end
end Rz

namespace Rz
open PySem PySem.Spec PyProof.Rows L2
/-! ### iter(t) of a tuple; a comprehension over an own class whose __iter__ gives it -/
/-- at it a tuple's iterator that has not begun -/
def ItT (t it : Addr) : HO := .ext fun h => h.IsTupleIter it t 0
theorem itT_ok {P : Program} {w : World} {H : Hp} {h : Heap} {t it : Addr} (e : h.IsTupleIter it t 0) : ObjOk P w H h it (ItT t it) :=
  ⟨e, let ⟨o, ho, _⟩ := e; ⟨o, ho⟩, fun h1 h2 q k => let ⟨o, ho, r⟩ := q; ⟨o, k _ ho, r⟩⟩
section
variable {prog : Program} {w : World} {A : Around} {E : Value → Shared → Prop} {s : Shared} {t : Addr} {items : Array Value}
theorem iter_tup {Q : Value → Shared → Prop} (hl : s.heap.IsTuple t items) (h : Q (.ref s.heap.objs.size) { s with heap := s.heap.push { cls := .type "tuple_iterator", data := .fields #[.ref t, .int 0 0] } }) : wpAny (model prog w) A (call (.builtin "iter") [.ref t]) Q E s := by
  refine Calls.call_function_entry (by decide +kernel) (by decide +kernel) PySem.W.kdk_entry_iter (PySem.W.kdk_args_iter _) ?_
  unfold Builtin.«iter»
  refine wpAny_bind (m := someArgs "iter" 1 2 _) (wpAny_of_eq (a := [Value.ref t]) (by first | rfl | kernel_rfl!) ?_)
  show wpAny _ _ (pyIter (.ref t) >>= _) _ _ _
  refine wpAny_bind (wpAny_pyIter_tuple hl ?_)
  exact wpAny_pure ⟨_, rfl, h⟩
end
def rIterT (K : PySem.W.Frag) (n : Nat) : List V → Hp → VK → Prop := fun xs H Q => ∃ (t : Addr) (zs : List V), xs = [.ref t] ∧ SqT K H t zs ∧ ∀ it, H it = none → n ≤ it → Q (.ref it) (upd H it (ItT t it))
section
variable {X : Cx}
theorem call_iterT : CallR X (.builtin "iter") (rIterT X.K X.s_0.heap.objs.size) := by
  intro pins s σ H xs us Q I r h
  obtain ⟨l, zs, rfl, hq, q⟩ := h
  obtain ⟨u, rfl, ru⟩ := vals1 r
  cases ru
  obtain ⟨its, rv, pl, hz⟩ := I.tuple hq
  refine iter_tup (show s.heap.IsTuple l its.toArray from pl) ?_
  exact ⟨.ref s.heap.objs.size, _, I.laid (t' := s.toks) (fun b u e => Heap.get?_push_of_some _ e) (Nat.le_refl _) (itT_ok ⟨_, Heap.get?_push_size _ rfl, rfl, rfl⟩), rfl, q _ (I.hok.fresh (Nat.le_refl _)) I.sz⟩
end
/-- the def gives a new iterator of the tuple at t -/
def IterOk (P : Program) (w : World) (K : PySem.W.Frag) (mg : Str → Option Value) (base : Heap) (k : Nat) (f : Addr) (pre : Addr → Addr → Hp → Prop) : Prop :=
  ∀ (A : Around) (outer : List Env) (s : Shared) (H : Hp) (a t : Addr), Room k A → Env0 P w K mg base A outer s H → pre a t H →
    codeAny (model P w) A (.call (.ref f) ⟨[.ref a], []⟩) (fun q s' => match q with
      | .ok (.ret u) => CE outer P w H s (fun v H' => ∃ it, v = .ref it ∧ s.heap.objs.size ≤ it ∧ H it = none ∧ H' = upd H it (ItT t it)) u s'
      | .ok _ => False
      | .error e => L2.CX P w outer H s E0 e s') s
theorem iter_of {P : Program} {w : World} {K : PySem.W.Frag} {mg : Str → Option Value} {base : Heap} {k : Nat} {x qual : Str} {st : Stmt} {f : Addr} {fd : FuncData} {N ps : List Str} {pre : Addr → Addr → Hp → Prop} {e : Expr} {p2 : Pos} (F : Fun K x qual st f fd) (S : FnScope N ps (defScope st))
    (hb : Binds K fd ps []) (hl : ps.length = 1) (hst : defBody st = [.Return (some e) p2])
    (hbody : ∀ (cdv : Value) (A : Around) (outer : List Env) (s : Shared) (H : Hp) (a t : Addr), Room k (A.deeper (envOfC qual (defScope st) s.heap.objs.size f cdv)) → pre a t H →
      ∃ te, PE (cxOf (L2.CX P w) P w K mg base N qual (defScope st) f cdv A outer s H E0) e te ∧ te (start N [.ref a]) H (fun v H' => ∃ it, v = .ref it ∧ s.heap.objs.size ≤ it ∧ H it = none ∧ H' = upd H it (ItT t it))) : IterOk P w K mg base (k + 1) f pre := by
  intro A outer s H a t hr e0 hpre
  have KX : K.In s.heap := e0.mod.kin.keeps fun b o e => (e0.bs b o e).1
  have hbb := hb s [.ref a] KX (by rw [List.append_nil]; exact hl.symm)
  rw [List.append_nil] at hbb
  obtain ⟨oc, od, kV, doc, pm, an, cdv, ct, osl, rfl, lk, hcd⟩ := F.ex
  have lim : s.heap.NoLimit := e0.mod.nolimit.keeps fun b o e => (e0.bs b o e).1
  have hkind : ∀ y ∈ ps.zip [Value.ref a], (defScope st).names.lookup y.1 = some .local ∨ ((defScope st).names.lookup y.1 = some .cell ∧ ((cellsFrom (s.heap.objs.size + 1) (defScope st).names []).lookup y.1).isSome = true) := fun ⟨n, v⟩ hy => by
    rcases S.par n (List.of_mem_zip hy).1 with q | q
    · exact .inl q
    · exact .inr ⟨q, PySem.W.cellsFrom_some _ _ _ (.inl q)⟩
  refine codeAny_call_function hr.depth (KX _ _ lk) rfl S.co S.gen rfl (PySem.W.codeRec_of KX hcd) (hbb _ _ _ _ ?_)
  refine wpAny_newFunctionEnv_cells S.kind hkind fun env he s1 xx => ?_
  subst he
  refine ⟨lim.keeps xx.toInCall.keep, codeAny_func ?_⟩
  obtain ⟨te, hc, hq⟩ := hbody cdv A outer s H a t (hr.deeper _) hpre
  have I : Inv (cxOf (L2.CX P w) P w K mg base N qual (defScope st) f cdv A outer s H E0) [] (start N [.ref a]) H s1 := inv_start S hr.hd e0 (by rw [hl]; rfl) (.cons rfl .nil) xx
  show wpAny _ _ (execs (defBody st) _) _ _ _
  rw [hst]
  refine wpAny_execs_cons (wpAny_Return_some (wpAny_mono (hc.run [] s1 (start N [.ref a]) H _ I hq) (fun b s2 hs => ?_) (fun e s' hs => ?_)))
  · obtain ⟨v, H2, I2, rv, hv⟩ := hs
    exact ⟨v, H2, I2.os, I2.bare, I2.base, I2.hok, rv, hv⟩
  · exact hs
/-- a comprehension or a loop over such an instance -/
def iOwnT (K : PySem.W.Frag) (C : Addr) (pre : Addr → Addr → Hp → Prop) (te : TE) : TI := fun σ H R => te σ H fun x H1 => ∃ a t dx fs xs, x = .ref a ∧ H1 a = some (.ins C dx fs) ∧ pre a t H1 ∧ SqT K H1 t xs ∧ R (Itt K t) H1
section
variable {X : Cx} {tg e : Expr} {te : TE} {C f : Addr} {k : Nat} {pre : Addr → Addr → Hp → Prop}
theorem pi_ownT (M : Meth X.K C "__iter__" f) (F : IterOk X.prog X.w X.K X.mg X.base k f pre) (hr : Room k X.A) (he : PE X e te) : PI X tg e (iOwnT X.K C pre te) := by
  refine ⟨fun pins s σ H R I h => ?_⟩
  refine thn (he.run pins s σ H _ I h) fun v s1 ⟨x, H1, I1, r1, q1⟩ => ?_
  obtain ⟨a, t, dx, fs, xs, ex, ea, hp, ht, q⟩ := q1
  subst ex
  obtain rfl : v = Value.ref a := r1
  obtain ⟨od, J⟩ := inst_at I1 ea
  obtain ⟨m0, hF⟩ := I1.fr
  refine PySem.W.owit_iter hF I1.ok.mod.kin J M.at_ M.fn (wpAny_call (codeAny_mono (F X.A X.stack s1 H1 a t hr I1.env0 hp) fun r s' hq => ?_))
  match r, hq with
  | .error er, hq =>
    obtain ⟨_, _, _, _, _, _, _, _, _, _, _, _, z⟩ := hq
    exact z.elim
  | .ok .next, hq => exact False.elim hq
  | .ok .brk, hq => exact False.elim hq
  | .ok .cont, hq => exact False.elim hq
  | .ok (.ret u), hq =>
    obtain ⟨v, H', I2, rv, it, rfl, young, hn, rfl⟩ := I1.after hq
    obtain rfl : u = Value.ref it := rv
    have hit : upd H1 it (ItT t it) it = some (ItT t it) := upd_same
    have st : s'.heap.IsTupleIter it t 0 := (I2.hok it _ hit).1
    have hit2 := hit
    unfold ItT at hit2
    unfold PySem.W.OwitIt
    refine wpAny_specialOf (name := Str.ofString "__next__") st.typeIs slot_tupleiter_next.lookup ?_
    have I3 := ItX.inv_drop I2 hit2
    have fp := ItX.inv_fp I2 hit2 (Nat.le_trans I1.sz young)
    have eH : ItX.dropH (upd H1 it (ItT t it)) it = H1 := ItX.dropH_upd hn
    rw [eH] at I3 fp
    refine ⟨it, [it], _, _, H1, rfl, I3, turn_tuple t it, st, fun b hb => ?_, q⟩
    have e : b = it := by simpa using hb
    rw [e]
    exact fp
end
end Rz

namespace Rz
open PySem PySem.Spec PyProof.Rows L2
/-! ### set(text) -/
/-- the set at a has the texts l, its table can be walked -/
def SsAt (P : Program) (w : World) (h : Heap) (a : Addr) (l : List Str) : Prop :=
  ∃ D : PySem.Froz.SD, h.get? a = some (PySem.Froz.sObj "set" D) ∧ PySem.Froz.TxOk P w D l ∧ l.Nodup ∧ Ris D.2.2.place.toList ∧ (w.params.followText "set-order" = true ∨ D.2.2.led = true)
theorem SsAt.keep {P : Program} {w : World} {h h' : Heap} {a : Addr} {l : List Str} (x : SsAt P w h a l) (k : ∀ o, h.get? a = some o → h'.get? a = some o) : SsAt P w h' a l := let ⟨D, e, r⟩ := x; ⟨D, k _ e, r⟩
theorem tail_ris {ep : Nat} {es : Array (Int × Value)} {t : SetTable} {dm : Bool} (r : Ris t.place.toList) : Ris (PySem.Froz.tailTx ep es t dm).2.2.place.toList := by
  unfold PySem.Froz.tailTx
  split
  · exact relayAll_ris _ _ _
  · exact r
theorem tail_led {ep : Nat} {es : Array (Int × Value)} {t : SetTable} {dm : Bool} : (PySem.Froz.tailTx ep es t dm).2.2.led = t.led := by
  unfold PySem.Froz.tailTx
  split
  · exact relayAll_led _ _ _
  · rfl
theorem add_ris {D : PySem.Froz.SD} {h : Int} {v : Value} (r : Ris D.2.2.place.toList) : Ris (PySem.Froz.addTx h v D).2.2.place.toList := by
  have q := layNew_ris D.2.2 D.1 h v r
  refine tail_ris ?_
  split
  · exact q
  · exact q
theorem add_led {D : PySem.Froz.SD} {h : Int} {v : Value} : (PySem.Froz.addTx h v D).2.2.led = D.2.2.led := by
  have q := layNew_led D.2.2 D.1 h v
  refine tail_led.trans ?_
  split
  · exact q
  · exact q
section
variable {P : Program} {w : World} {A : Around} {E : Value → Shared → Prop} {s : Shared}
/-- a text that is there is added -/
theorem add_stay {a : Addr} {T : String} {D : PySem.Froz.SD} {l : List Str} {k : Str} {u : Tok} {Q : Bool → Shared → Prop} (ho : s.heap.get? a = some (PySem.Froz.sObj T D)) (F : PySem.Froz.TxOk P w D l) (hk : k ∈ l) (hb : l.length < scanBound) (h : Q false s) :
    wpAny (model P w) A (setAddHashed a (.str k u) (hashStr w k)) Q E s := by
  obtain ⟨es, ep, t⟩ := D
  have hsz : es.size = l.length := F.sz
  have kk : (strKind P w).is k (.str k u) = true := PySem.Froz.is_str k u
  obtain ⟨e, he, hp⟩ := (F.mem k).mp hk
  unfold setAddHashed setAddHashedIn
  refine wpAny_holding (wpAny_bind (wpAny_setState_of ho rfl F.fit ?_))
  dsimp only
  rw [byScan_of rfl (show es.size < scanBound by rw [hsz]; exact hb) F.el]
  simp only [↓reduceIte]
  unfold setAddByScan
  refine wpAny_bind (wpAny_bind (wpAny_rule (wpAny_bind (wpAny_setScan_of (knd := strKind P w) (k := k) kk ho rfl F.fit F.el ?_))))
  cases fi : List.findIdx? (fun e => (strKind P w).is k e.2) es.toList with
  | none => exact absurd (List.findIdx?_eq_none_iff.mp fi e he) (by rw [hp]; decide)
  | some j =>
    dsimp only
    exact wpAny_pure (wpAny_pure h)
theorem ss_add {a : Addr} {l : List Str} {k : Str} {u : Tok} {Q : Bool → Shared → Prop} (x : SsAt P w s.heap a l) (hb : l.length + 1 < scanBound)
    (h : ∀ (h' : Heap) (l' : List Str) (b : Bool), SsAt P w h' a l' → (∀ y, y ∈ l' ↔ y = k ∨ y ∈ l) → l'.length ≤ l.length + 1 → (∀ c o, c ≠ a → s.heap.get? c = some o → h'.get? c = some o) → Q b { s with heap := h' }) :
    wpAny (model P w) A (setAddHashed a (.str k u) (hashStr w k)) Q E s := by
  obtain ⟨D, ho, F, nd, r, led⟩ := x
  by_cases hk : k ∈ l
  · refine add_stay ho F hk (by omega) ?_
    exact h s.heap l false ⟨D, ho, F, nd, r, led⟩ (fun y => ⟨.inr, fun z => z.elim (fun e => e ▸ hk) id⟩) (by omega) fun c o _ e => e
  · refine PySem.Froz.add_x ho F hk hb ?_
    refine h _ (k :: l) true ⟨_, PySem.Froz.get_upd _ ho rfl, PySem.Froz.add_ok u F, List.nodup_cons.mpr ⟨hk, nd⟩, add_ris r, led.imp id fun z => add_led.trans z⟩ (fun y => List.mem_cons) (Nat.le_refl _) fun c o n e => ?_
    exact PySem.Heap.get?_update_of_ne _ (Ne.symm n) e
/-- the signs of x ahead of i -/
def upTo (x : Str) (i : Nat) (k : Str) : Prop := ∃ j c, j < i ∧ x.cps[j]? = some c ∧ k = ⟨#[c]⟩
theorem ss_loop {R : Result → Shared → Prop} {I a : Addr} {x : Str} {t : Tok} (hh : A.in1.handled = none) (ne : a ≠ I) (hz : x.cps.size + 1 < scanBound) : ∀ (k i : Nat) (s : Shared) (l : List Str), x.cps.size - i = k → i ≤ x.cps.size → s.heap.IsStrIter I "str_ascii_iterator" x t i →
    SsAt P w s.heap a l → (∀ y, y ∈ l ↔ upTo x i y) → l.length ≤ i →
    (∀ (h' : Heap) (tk : Nat) (l' : List Str), SsAt P w h' a l' → (∀ y, y ∈ l' ↔ upTo x x.cps.size y) → l'.length ≤ x.cps.size → (∀ c o, c ≠ a → c ≠ I → s.heap.get? c = some o → h'.get? c = some o) → R (.ok (.ret .none)) { s with heap := h', toks := tk }) →
    codeAny (model P w) A (.builtin "set.update.loop" ⟨[.ref a, .ref I], []⟩) R s := by
  have W := Walks.strAscii (prog := P) (w := w) hh I x t
  intro k
  induction k with
  | zero =>
    intro i s l hk hi st hS hm hl hR
    obtain rfl : i = x.cps.size := by omega
    refine codeAny_builtin PyProof.Rows.F.entry_set_update_loop ?_
    rw [Around.under_plainId PyProof.Rows.F.plain_set_update_loop _]
    show wpAny _ A.in1 (pyNext (.ref I) >>= _) _ _ s
    refine wpAny_bind (W.done s _ _ st fun h' tk kp => ?_)
    show wpAny _ A.in1 (ret Value.none) _ _ _
    exact wpAny_pure (hR h' tk l (hS.keep fun o e => kp a o (by simpa using ne) e) hm hl fun c o _ n2 e => kp c o (by simpa using n2) e)
  | succ k ih =>
    intro i s l hk hi st hS hm hl hR
    refine codeAny_builtin PyProof.Rows.F.entry_set_update_loop ?_
    rw [Around.under_plainId PyProof.Rows.F.plain_set_update_loop _]
    show wpAny _ A.in1 (pyNext (.ref I) >>= _) _ _ s
    refine wpAny_bind (W.item i s _ _ (by omega) st fun v h1 tk ⟨c, u, hc, ev⟩ st1 kp => ?_)
    subst ev
    show wpAny _ A.in1 (holding [Value.str ⟨#[c]⟩ u] (setAdd a (.str ⟨#[c]⟩ u)) >>= _) _ _ _
    refine wpAny_bind (wpAny_holding ?_)
    unfold setAdd
    refine wpAny_holding (wpAny_bind ((strKind P w).pyHash (k := ⟨#[c]⟩) (PySem.Froz.is_str _ _) ?_))
    refine ss_add (s := { s with heap := h1, toks := tk + 1 }) (l := l) (hS.keep fun o e => kp a o (by simpa using ne) e) (by omega) fun h2 l2 b hS2 hm2 hl2 kp2 => ?_
    have st2 : h2.IsStrIter I "str_ascii_iterator" x t (i + 1) := W.frame (i + 1) h1 h2 st1 fun b hb o e => kp2 b o (by
      have z : b = I := by simpa using hb
      rw [z]
      exact Ne.symm ne) e
    refine wpAny_pure ⟨plainId_quiet PyProof.Rows.F.plain_set_update_loop _, ih (i + 1) { s with heap := h2, toks := tk + 1 } l2 (by omega) (by omega) st2 hS2 (fun y => ?_) (by omega) fun h3 tk3 l3 hS3 hm3 hl3 kp3 => ?_⟩
    · rw [hm2, hm]
      constructor
      · rintro (rfl | ⟨j, d, hj, hd, rfl⟩)
        · exact ⟨i, c, by omega, hc, rfl⟩
        · exact ⟨j, d, by omega, hd, rfl⟩
      · rintro ⟨j, d, hj, hd, rfl⟩
        rcases Nat.lt_or_ge j i with h | h
        · exact .inr ⟨j, d, h, hd, rfl⟩
        · obtain rfl : j = i := by omega
          rw [hc] at hd
          cases hd
          exact .inl rfl
    · exact hR h3 tk3 l3 hS3 hm3 hl3 fun d o n1 n2 e => kp3 d o n1 n2 (kp2 d o n1 (kp d o (by simpa using n2) e))
/-- a set just made -/
abbrev frS (w : World) : Obj := { cls := .type "set", dict := none, data := .set #[] 0 (.fresh 0 0 (!w.params.followText "set-order")) }
theorem ss_fresh {h : Heap} {a : Addr} (e : h.get? a = some (frS w)) : SsAt P w h a [] := by
  refine ⟨(#[], 0, .fresh 0 0 (!w.params.followText "set-order")), e, PySem.Froz.TxOk.nil (by rfl), .nil, List.Pairwise.nil, ?_⟩
  show _ ∨ (!w.params.followText "set-order") = true
  cases w.params.followText "set-order"
  · exact .inr rfl
  · exact .inl rfl
/-- set(x) of a text of the plain signs -/
theorem call_setTx {x : Str} {t : Tok} {Q : Value → Shared → Prop} (hh : A.handled = none) (hx : x.cps.all (· < 128) = true) (hz : x.cps.size + 1 < scanBound)
    (h : ∀ (h' : Heap) (tk : Nat) (l : List Str), SsAt P w h' s.heap.objs.size l → (∀ y, y ∈ l ↔ upTo x x.cps.size y) → l.length ≤ x.cps.size → (∀ b o, s.heap.get? b = some o → h'.get? b = some o) → Q (.ref s.heap.objs.size) { s with heap := h', toks := tk }) :
    wpAny (model P w) A (call (.type "set") [.str x t]) Q E s := by
  obtain ⟨c, tl, hmro⟩ := PySem.F.called_set.mro
  have cm := PySem.F.called_set.made
  have cs := PySem.F.called_set.sub
  refine wpAny_call (codeAny_of_tree ?_)
  show wpAny _ _ (callAny (.type "set") _) _ _ _
  refine wpAny_pure ⟨Code.quiet_builtin _ (by decide +kernel), codeAny_builtin PySem.F.entry_type_call ?_⟩
  rw [Around.under_plain (weight_type_call_type "set" [.str x t] []) rfl]
  have cn := PySem.F.called_set.notType
  have cc := PySem.F.called_set.canCreate
  have ct := PySem.F.typeCall_set_1 (.str x t)
  repeat (any_goals (first | assumption | wp_step))
  refine codeAny_mono (code_set_led1 (.str x t) (E := E) (Q₁ := fun u s1 => u = .ref s.heap.objs.size ∧ s1 = { s with heap := s.heap.push (frS w) }) ⟨rfl, rfl⟩) fun r s1 hr => ?_
  match r, hr with
  | .error e, hr => exact hr
  | .ok .next, hr => exact hr.elim
  | .ok .brk, hr => exact hr.elim
  | .ok .cont, hr => exact hr.elim
  | .ok (.ret u), hr =>
    obtain ⟨rfl, rfl⟩ := hr
    have at0 : (s.heap.push (frS w)).get? s.heap.objs.size = some (frS w) := Heap.get?_push_size _ rfl
    have ty0 : Shared.TypeIs { s with heap := s.heap.push (frS w) } (.ref s.heap.objs.size) "set" := ⟨_, at0, rfl⟩
    have il := PySem.F.called_set.init.lookup
    have ib := PySem.F.called_set.init.bind (.ref s.heap.objs.size)
    repeat (any_goals (first | assumption | wp_step))
    refine codeAny_mono (codeAny_call_builtin (R := wants (fun r s2 => r = .none ∧ ∃ h' tk l, s2 = { s with heap := h', toks := tk } ∧ SsAt P w h' s.heap.objs.size l ∧ (∀ y, y ∈ l ↔ upTo x x.cps.size y) ∧ l.length ≤ x.cps.size ∧
        (∀ b o, s.heap.get? b = some o → h'.get? b = some o)) E) PySem.F.called_set.init.plain PySem.F.entry_set_init (check_set_init_1 ty0 ?_)) fun r2 s2 h2 => ?_
    · have f1 := PySem.F.sub_str_set
      have f2 := PySem.F.sub_str_frozenset
      have f3 : (Value.type "str" == Value.type "dict") = false := by decide
      unfold Builtin.«set.__init__» noKeywords Builtin.Frozenset.updateFrom
      generalize hPI : pyIter = PI
      wp_walk
      subst hPI
      refine wpAny_pyIter_ascii hx ?_
      refine wpAny_bind (wpAny_runValue ?_)
      have sz1 : (s.heap.push (frS w)).objs.size = s.heap.objs.size + 1 := Heap.size_push ..
      refine ss_loop (t := t) (I := (s.heap.push (frS w)).objs.size) (by simp [hh]) (by rw [sz1]; exact Nat.ne_of_lt (Nat.lt_succ_self _)) hz (x.cps.size - 0) 0 _ [] rfl (Nat.zero_le _) ⟨_, Heap.get?_push_size _ rfl, rfl, rfl⟩ (ss_fresh (Heap.get?_push_of_some _ at0))
        (fun y => ⟨fun z => (by cases z), fun ⟨j, c, hj, _⟩ => absurd hj (Nat.not_lt_zero _)⟩) (Nat.le_refl _) fun h' tk l hS hm hl kp => ?_
      show wpAny _ _ _ _ _ _
      refine wpAny_pure ?_
      show wpAny _ _ (ret Value.none) _ _ _
      refine wpAny_pure ⟨rfl, h', tk, l, rfl, hS, hm, hl, fun b o e => ?_⟩
      have lt := Heap.lt_size e
      exact kp b o (Nat.ne_of_lt lt) (by rw [sz1]; exact Nat.ne_of_lt (Nat.lt_succ_of_lt lt)) (Heap.get?_push_of_some _ (Heap.get?_push_of_some _ e))
    · match r2, h2 with
      | .error e, h2 => exact h2
      | .ok .next, h2 => exact h2.elim
      | .ok .brk, h2 => exact h2.elim
      | .ok .cont, h2 => exact h2.elim
      | .ok (.ret r), h2 =>
        obtain ⟨rfl, h', tk, l, rfl, hS, hm, hl, kp⟩ := h2
        repeat (any_goals (first | assumption | wp_step))
        exact h _ _ _ hS hm hl kp
end
end Rz

namespace Rz
open PySem PySem.Spec PyProof.Rows L2
/-! ### sorted(set) of texts -/
theorem perm_sub : ∀ {l ys : List Str}, l.Nodup → (∀ k ∈ l, k ∈ ys) → ys.length = l.length → ys.Perm l
  | [], ys, _, _, e => by
    rw [List.eq_nil_of_length_eq_zero e]
  | k :: l, ys, nd, sub, e => by
    obtain ⟨n1, n2⟩ := List.nodup_cons.mp nd
    have hk := sub k List.mem_cons_self
    have p := List.perm_cons_erase hk
    refine p.trans (.cons k (perm_sub n2 (fun j hj => ?_) ?_))
    · exact (List.mem_erase_of_ne (show j ≠ k from fun z => n1 (by rw [← z]; exact hj))).mpr (sub j (List.mem_cons_of_mem _ hj))
    · have q := List.length_erase_of_mem hk
      have e2 : ys.length = l.length + 1 := e
      omega
theorem strs_of : ∀ {vs : List Value}, (∀ v ∈ vs, ∃ k t, v = Value.str k t) → ∃ ys, StrsAre vs ys ∧ ∀ k t, Value.str k t ∈ vs → k ∈ ys
  | [], _ => ⟨[], .nil, fun k t h => by cases h⟩
  | v :: vs, h => by
    obtain ⟨k, t, rfl⟩ := h v List.mem_cons_self
    obtain ⟨ys, r, m⟩ := strs_of (vs := vs) fun u hu => h u (List.mem_cons_of_mem _ hu)
    refine ⟨k :: ys, .cons k t r, fun j u hj => ?_⟩
    rcases List.mem_cons.mp hj with e | e
    · cases e
      exact List.mem_cons_self
    · exact List.mem_cons_of_mem _ (m j u e)
section
variable {P : Program} {w : World} {A : Around} {E : Value → Shared → Prop} {s : Shared} {a : Addr} {l : List Str}
theorem sorted_ss {Q : Value → Shared → Prop} (x : SsAt P w s.heap a l) (hh : A.handled = none) (h64 : l.length < 64)
    (hQ : ∀ (s' : Shared) (p : Addr) (out : Array Value) (c : Nat) (ys : List Str), (∀ b o, s.heap.get? b = some o → s'.heap.get? b = some o) → s'.gens = s.gens → s'.os = s.os → s.heap.objs.size ≤ p →
      s'.heap.get? p = some (seqObj "list" out c) → StrsAre out.toList ys → ys.Perm l → sortedS ys = true → Q (.ref p) s') :
    wpAny (model P w) A (call (.builtin "sorted") [.ref a]) Q E s := by
  obtain ⟨⟨es, ep, t⟩, ho, F, nd, r, led⟩ := x
  have sz : es.size = l.length := F.sz
  have el : ElemsOf (strKind P w) es.toList := F.el
  have mm : ∀ k : Str, k ∈ l ↔ ∃ e ∈ es.toList, (strKind P w).is k e.2 = true := F.mem
  refine Calls.call_function_entry kind_sorted plain_sorted entry_sorted (args_sorted1 _) ?_
  unfold Builtin.«sorted»
  refine wpAny_bind (m := checkCount "sorted" 1 1 _) (wpAny_pure ?_)
  refine wpAny_bind (collect_set (A := A.in1) hh ⟨_, ho, rfl, rfl⟩ F.fit (show es.size < scanBound by rw [sz]; unfold scanBound; omega) r led fun s1 vs k1 z1 g1 o1 pv => ?_)
  have vl : vs.length = l.length := by rw [pv.length_eq, List.length_map, Array.length_toList, sz]
  obtain ⟨ys0, S0, m0⟩ := strs_of (vs := vs) fun v hv => by
    obtain ⟨e, he, q⟩ := List.mem_map.mp (pv.mem_iff.mp hv)
    obtain ⟨⟨k, h1, _⟩, _⟩ := el e he
    obtain ⟨tk, e1⟩ := Value.isStrOf_shape (x := k) (v := e.2) h1
    exact ⟨k, tk, by rw [← q]; exact e1⟩
  have p0 : ys0.Perm l := perm_sub nd (fun k hk => by
    obtain ⟨e, he, q⟩ := (mm k).mp hk
    obtain ⟨tk, e1⟩ := Value.isStrOf_shape (x := k) (v := e.2) q
    exact m0 k tk (pv.mem_iff.mpr (List.mem_map.mpr ⟨e, he, e1⟩))) (by rw [← StrsAre.len_eq S0, vl])
  refine wpAny_bind (wpAny_newList ?_ (by rw [vl, sizeLine_eq]; omega))
  have at1 : (s1.heap.push (seqObj "list" vs.toArray 0)).get? s1.heap.objs.size = some (seqObj "list" vs.toArray 0) := Heap.get?_push_size _ rfl
  refine wpAny_bind (wpAny_holding (wpAny_call_entry slot_list_sort ⟨_, at1, rfl⟩ entry_list_sort (list_sort_treeK strKind_oneLt at1 S0.keysOf (fun v1 v2 rest e => keyKind_strs (by rw [← e]; exact S0)) (by rw [vl]; exact h64) fun st' hp hs => ⟨_, rfl, ?_⟩) (args_list_sort _)))
  obtain ⟨ys, a1, a2, a3⟩ := sorted_out_str S0 hp hs
  obtain ⟨c, hc⟩ := sortedHeap_at (vs := vs) (out := (arrOf st').map (·.2)) at1
  refine wpAny_pure ⟨_, rfl, hQ _ s1.heap.objs.size _ c ys (fun b u e => ?_) g1 o1 z1 hc a1 (a2.trans p0) a3⟩
  have q := k1 b u e
  have lt := Heap.lt_size q
  show (sortedHeap (s1.heap.push (seqObj "list" vs.toArray 0)) s1.heap.objs.size vs _).get? b = some u
  rw [sortedHeap_old (Nat.ne_of_lt lt) (by rw [size_push']; exact Nat.lt_succ_of_lt lt)]
  exact Heap.get?_push_of_some _ q
end
/-- the set at a, tracked -/
def SsO (P : Program) (w : World) (a : Addr) (l : List Str) : HO := .ext fun h => SsAt P w h a l
theorem ssO_ok {P : Program} {w : World} {H : Hp} {h : Heap} {a : Addr} {l : List Str} (x : SsAt P w h a l) : ObjOk P w H h a (SsO P w a l) :=
  ⟨x, let ⟨_, e, _⟩ := x; ⟨_, e⟩, fun h1 h2 q k => SsAt.keep q fun o e => k o e⟩
def rSetTx (P : Program) (w : World) : List V → Hp → VK → Prop := fun xs H Q => ∃ x : Str, xs = [.str x] ∧ x.cps.all (· < 128) = true ∧ x.cps.size + 1 < scanBound ∧
  ∀ (p : Addr) (l : List Str), H p = none → (∀ y, y ∈ l ↔ upTo x x.cps.size y) → l.Nodup → l.length ≤ x.cps.size → Q (.ref p) (upd H p (SsO P w p l))
def rSortSs (P : Program) (w : World) : List V → Hp → VK → Prop := fun vs H Q => ∃ (a : Addr) (l : List Str), vs = [.ref a] ∧ H a = some (SsO P w a l) ∧ l.length < 64 ∧
  ∀ (ys : List Str) (p : Addr), ys.Perm l → sortedS ys = true → H p = none → Q (.ref p) (upd H p (.lst (ys.map V.str)))
section
variable {X : Cx}
theorem cr_setTx (hc : X.calm = true) : CallR X (.type "set") (rSetTx X.prog X.w) := by
  intro pins s σ H xs us Q I r h
  obtain ⟨x, rfl, ha, hz, q⟩ := h
  obtain ⟨u, rfl, t, rfl⟩ := vals1 r
  refine call_setTx (I.ok.hd hc) ha hz fun h' tk l hS hm hl kp => ?_
  exact ⟨.ref s.heap.objs.size, _, I.laid (t' := tk) kp (Nat.le_refl _) (ssO_ok hS), rfl, q _ l (I.hok.fresh (Nat.le_refl _)) hm (let ⟨_, _, _, nd, _⟩ := hS; nd) hl⟩
theorem cr_sortSs (hc : X.calm = true) : CallR X (.builtin "sorted") (rSortSs X.prog X.w) := by
  intro pins s σ H vs us Q I r h
  obtain ⟨a, l, rfl, ha, h64, q⟩ := h
  rw [Vals.ref1 r]
  have hS : SsAt X.prog X.w s.heap a l := (I.hok a _ ha).1
  refine sorted_ss hS (I.ok.hd hc) h64 fun s' p out c ys k g o hp hg hi pm hs => ?_
  have hlen : (ys.map V.str).length ≤ sizeLine := by rw [List.length_map, pm.length_eq, sizeLine_eq]; omega
  have hn : H p = none := I.hok.fresh hp
  have J : Inv X pins σ (upd H p (.lst (ys.map V.str))) { s with heap := s'.heap, gens := s'.gens, drawn := s'.drawn, toks := s'.toks } :=
    I.call (ch := []) (Un.laid k hp hn) (I.hok.laid k hp ⟨hlen, out.toList, c, vals_of_strs hi, hg⟩) (by rw [g]; exact I.bare) (fun _ z => nomatch z)
  have e : s' = { s with heap := s'.heap, gens := s'.gens, drawn := s'.drawn, toks := s'.toks } := by
    obtain ⟨_, _, _, _, _⟩ := s'
    obtain rfl := o
    rfl
  rw [e]
  exact ⟨.ref p, _, J, rfl, q ys p pm hs hn⟩
end
end Rz
namespace Rz
open PySem PySem.Spec PyProof.Rows L2
/-! ### ascending signs -/
theorem rise_eq : ∀ {a b : List Nat}, a.Pairwise (· < ·) → b.Pairwise (· < ·) → (∀ x, x ∈ a ↔ x ∈ b) → a = b
  | [], [], _, _, _ => rfl
  | [], y :: b, _, _, h => absurd ((h y).mpr List.mem_cons_self) (by simp)
  | x :: a, [], _, _, h => absurd ((h x).mp List.mem_cons_self) (by simp)
  | x :: a, y :: b, ha, hb, h => by
    obtain ⟨a1, a2⟩ := List.pairwise_cons.mp ha
    obtain ⟨b1, b2⟩ := List.pairwise_cons.mp hb
    have e : x = y := by
      rcases List.mem_cons.mp ((h x).mp List.mem_cons_self) with e | e
      · exact e
      · rcases List.mem_cons.mp ((h y).mpr List.mem_cons_self) with f | f
        · exact f.symm
        · have := b1 x e
          have := a1 y f
          omega
    subst e
    refine congrArg (x :: ·) (rise_eq a2 b2 fun z => ⟨fun hz => ?_, fun hz => ?_⟩)
    · rcases List.mem_cons.mp ((h z).mp (List.mem_cons_of_mem _ hz)) with f | f
      · have := a1 z hz
        omega
      · exact f
    · rcases List.mem_cons.mp ((h z).mpr (List.mem_cons_of_mem _ hz)) with f | f
      · have := b1 z hz
        omega
      · exact f
def sgs (cs : List Nat) : List Str := cs.map fun c => ⟨#[c]⟩
theorem rise_of : ∀ (cs : List Nat) (p : Nat), risingS ⟨#[p]⟩ (sgs cs) = true → (p :: cs).Nodup → (p :: cs).Pairwise (· < ·)
  | [], p, _, _ => by simp
  | c :: cs, p, h, nd => by
    have e : (!ltCps [c] [p] && risingS ⟨#[c]⟩ (sgs cs)) = true := h
    rw [Bool.and_eq_true] at e
    obtain ⟨n1, n2⟩ := List.nodup_cons.mp nd
    have ih := rise_of cs c e.2 n2
    have lt : p < c := by
      have h1 : ltCps [c] [p] = false := by simpa using e.1
      have h2 : ¬ c < p := fun z => by
        have : ltCps [c] [p] = true := by simp [ltCps, z]
        rw [this] at h1
        cases h1
      have h3 : p ≠ c := fun z => n1 (by rw [z]; exact List.mem_cons_self)
      omega
    refine List.pairwise_cons.mpr ⟨fun x hx => ?_, ih⟩
    rcases List.mem_cons.mp hx with f | f
    · rw [f]
      exact lt
    · have := (List.pairwise_cons.mp ih).1 x f
      omega
theorem rise_sorted : ∀ (cs : List Nat), sortedS (sgs cs) = true → cs.Nodup → cs.Pairwise (· < ·)
  | [], _, _ => .nil
  | c :: cs, h, nd => rise_of cs c h nd
theorem sgs_nodup : ∀ {cs : List Nat}, (sgs cs).Nodup → cs.Nodup
  | [], _ => .nil
  | c :: cs, h => by
    obtain ⟨h1, h2⟩ := List.nodup_cons.mp (show ((⟨#[c]⟩ : Str) :: sgs cs).Nodup from h)
    exact List.nodup_cons.mpr ⟨fun z => h1 (List.mem_map.mpr ⟨c, z, rfl⟩), sgs_nodup h2⟩
theorem sgs_of : ∀ {ys : List Str}, (∀ y ∈ ys, ∃ c : Nat, y = ⟨#[c]⟩) → ∃ cs, ys = sgs cs
  | [], _ => ⟨[], rfl⟩
  | y :: ys, h => by
    obtain ⟨c, rfl⟩ := h y List.mem_cons_self
    obtain ⟨cs, rfl⟩ := sgs_of (ys := ys) fun z hz => h z (List.mem_cons_of_mem _ hz)
    exact ⟨c :: cs, rfl⟩
/-- what sorted(set(x)) is: the signs of x, ascending -/
theorem sorted_signs {x : Str} {l ys : List Str} {ds : List Nat} (hm : ∀ y, y ∈ l ↔ upTo x x.cps.size y) (nd : l.Nodup) (p : ys.Perm l) (hs : sortedS ys = true) (hd : ds.Pairwise (· < ·)) (hx : ∀ c, c ∈ ds ↔ c ∈ x.cps.toList) : ys = sgs ds := by
  have one : ∀ y, y ∈ ys ↔ ∃ c, c ∈ x.cps.toList ∧ y = ⟨#[c]⟩ := fun y => by
    rw [p.mem_iff, hm]
    constructor
    · rintro ⟨j, c, hj, hc, rfl⟩
      exact ⟨c, List.mem_of_getElem? (by rw [Array.getElem?_toList]; exact hc), rfl⟩
    · rintro ⟨c, hc, rfl⟩
      obtain ⟨j, hj⟩ := List.mem_iff_getElem?.mp hc
      rw [Array.getElem?_toList] at hj
      have lt : j < x.cps.size := by
        rcases Nat.lt_or_ge j x.cps.size with h | h
        · exact h
        · rw [Array.getElem?_eq_none h] at hj; cases hj
      exact ⟨j, c, lt, hj, rfl⟩
  obtain ⟨cs, rfl⟩ := sgs_of (ys := ys) fun y hy => let ⟨c, _, e⟩ := (one y).mp hy; ⟨c, e⟩
  have ndc := sgs_nodup (p.nodup_iff.mpr nd)
  refine congrArg sgs (rise_eq (rise_sorted cs hs ndc) hd fun c => ?_)
  rw [hx]
  constructor
  · intro hc
    obtain ⟨d, hd, e⟩ := (one ⟨#[c]⟩).mp (List.mem_map.mpr ⟨c, hc, rfl⟩)
    have e2 : c = d := by
      have q := congrArg (fun y : Str => y.cps.toList) e
      simpa using q
    rw [e2]
    exact hd
  · intro hc
    obtain ⟨d, hd, e⟩ := List.mem_map.mp ((one ⟨#[c]⟩).mpr ⟨c, hc, rfl⟩)
    have e2 : d = c := by
      have q := congrArg (fun y : Str => y.cps.toList) e
      simpa using q
    rw [← e2]
    exact hd
end Rz

namespace Rz
open PySem PySem.Spec PyProof.Rows L2
/-! ### a try whose body lets nothing out here -/
def WNo : WX := fun _ _ _ _ => False
section
variable {X : Cx} {body : List Stmt} {h0 : ExceptHandler} {hds : List ExceptHandler} {pos : Pos} {tb : TS}
theorem ps_try_no (hb : ∀ (pn : List (Addr × Obj)) (xe : Value → Shared → Prop), Takes (X.tr pn xe) WNo → PassesOwn (model X.prog X.w) X.A X.env xe → PSs (X.tr pn xe) body tb) : PS X (.Try body (h0 :: hds) [] [] pos) tb := by
  refine ⟨fun pins s σ H D I h => ?_⟩
  have ok := I.ok
  refine wpAny_Try_except ?_
  refine wpAny_mono ((hb (X.pn ++ pins) (fun e sa => wpAny (model X.prog X.w) X.A (noteFrame e X.env) (fun _ sb => wpAny (model X.prog X.w) X.A (setFlight e none) (fun _ sc =>
    wpAny (model X.prog X.w) X.A (handleBy e X.env (h0 :: hds)) (SP X pins D) X.xe sc) X.xe sb) X.xe sa) (fun u s2 air => ?_) PassesOwn.looking).run [] s σ H D (I.toTry _) h) (fun f s1 hsp => ?_) (fun e s1 he => he)
  · obtain ⟨a, B, sI, pins2, σ2, H2, cls, d, rfl, J0, nb, up, sky, na, os, ag, w⟩ := air
    exact w.elim
  · match f, hsp with
    | .next, hsp => obtain ⟨_, _, S6, q6⟩ := hsp; exact wpAny_execs_nil ⟨_, _, S6.ofTry ok, q6⟩
    | .brk, hsp => obtain ⟨_, _, S6, q6⟩ := hsp; exact ⟨_, _, S6.ofTry ok, q6⟩
    | .cont, hsp => obtain ⟨_, _, S6, q6⟩ := hsp; exact ⟨_, _, S6.ofTry ok, q6⟩
    | .ret u, hsp => obtain ⟨_, _, _, S6, r6, q6⟩ := hsp; exact ⟨_, _, _, S6.ofTry ok, r6, q6⟩
end
end Rz

namespace Rz
open PySem PySem.Spec PyProof.Rows L2
/-! ### enumerate(list, start=k) -/
/-- the list at a as it stands at each turn, each item in a new pair, counted from k -/
def IteF (K : PySem.W.Frag) (k : Int) (a : Addr) : It :=
  ⟨fun i H => ∃ (xs : List V) (x : V), SqL K H a xs ∧ xs[i]? = some x, fun i H v H' => ∃ T x, v = .ref T ∧ H T = none ∧ H' = upd H T (.tup [.int (k + (i : Nat)), x]) ∧ ∀ xs, SqL K H a xs → xs[i]? = some x, fun i H => ∃ xs : List V, SqL K H a xs ∧ i = xs.length⟩
theorem ne_it {h : Heap} {a it : Addr} {items : Array Value} {i : Nat} (l : h.IsList a items) (t : h.IsListIter it a i) : a ≠ it := fun z => by
  obtain ⟨o1, h1, c1, _⟩ := l
  obtain ⟨o2, h2, c2, _⟩ := t
  rw [z, h2] at h1
  obtain rfl := Option.some.inj h1
  rw [c2] at c1
  exact absurd c1 (by decide)
theorem ne_en {h : Heap} {a e it : Addr} {items : Array Value} {c : Int} {old : Value} (l : h.IsList a items) (t : IsEnum h e it c old) : a ≠ e := fun z => by
  obtain ⟨o1, h1, c1, _⟩ := l
  have h2 : h.get? e = _ := t
  rw [z, h2] at h1
  obtain rfl := Option.some.inj h1
  exact absurd (show Value.type "enumerate" = Value.type "list" from c1) (by decide)
theorem turn_enumF {P : Program} {w : World} {K : PySem.W.Frag} {elts : List Expr} {kk : Nat} {tpos : Pos} (c : Int) (a e it : Addr) :
    Turn P w K (.Tuple elts kk tpos) (IteF K c a) [e, it] e (fun i h => (∃ old, IsEnum h e it (c + ((i : Nat) : Int)) old) ∧ h.IsListIter it a i ∧ e ≠ it) where
  mem := by simp
  obj := fun i h st b hb => by
    obtain ⟨⟨old, he⟩, ⟨o, ho, hc, hd⟩, _⟩ := st
    rcases (show b = e ∨ b = it by simpa using hb) with rfl | rfl
    · exact ⟨_, he, fun v q => nomatch q⟩
    · exact ⟨o, ho, fun v q => by rw [hd] at q; cases q⟩
  keep := fun i h h' st k => let ⟨⟨old, he⟩, hi, hne⟩ := st; ⟨⟨old, k e (by simp) _ he⟩, hi.at fun o q => k it (by simp) o q, hne⟩
  item := by
    intro X hP hw hK hc i pins s σ H E I hf st hg
    subst hP hw hK
    obtain ⟨⟨old, he⟩, hit, hne⟩ := st
    obtain ⟨xs, x, hq, hx⟩ := hg
    obtain ⟨its, rv, p, hz⟩ := I.list hq
    obtain ⟨u, hu, ru⟩ := rv.get hx
    have le : e < s.heap.objs.size := Heap.lt_size he
    have li : it < s.heap.objs.size := by obtain ⟨_, q, _⟩ := hit; exact Heap.lt_size q
    have D := Draws.list (prog := X.prog) (w := X.w) (A := X.A.in1) (I.ok.hd hc) it a (ne_it p.isList hit) its.toArray
    have lt : i < its.toArray.size := by
      have q := (List.getElem?_eq_some_iff.mp hu).1
      rw [List.size_toArray]
      exact q
    refine wpAny_pyNext_enum_itemC D he ⟨hit, p.isList⟩ lt hne (by
      have q := ne_en p.isList he
      simp [hne, Ne.symm q]) fun u1 h1 tk hu1 ho hit1 hT hsz hk => ?_
    obtain rfl : u1 = u := by
      rw [List.getElem?_toArray, hu] at hu1
      exact (Option.some.inj hu1).symm
    refine ⟨_, rfl, wpAny_letOwnedTupleGo_enum (s := { s with heap := h1, toks := tk + 1 }) ho fun h2 he2 sb => ?_⟩
    have at2 : h2.get? s.heap.objs.size = some { cls := .type "tuple", data := .seq #[.int (c + i) tk, u1] } := (sb.2 _ (Nat.ne_of_gt le)).trans hT
    have nw : ObjOk X.prog X.w (upd H s.heap.objs.size (.tup [.int (c + (i : Nat)), x])) h2 s.heap.objs.size (.tup [.int (c + (i : Nat)), x]) :=
      ⟨by show 2 ≤ sizeLine; decide, [.int (c + i) tk, u1], .cons ⟨_, rfl⟩ (.cons ru .nil), ⟨_, at2, rfl, _, rfl⟩⟩
    have J : Inv X pins σ (upd H s.heap.objs.size (.tup [.int (c + (i : Nat)), x])) { s with heap := h2, toks := tk + 1 } :=
      I.turnedNew (t' := tk + 1) (ch := [e, it]) (fun b ob hb q => (sb.2 b (fun z => hb (by simp [z]))).trans (hk b ob (fun z => hb (by simp [z])) (fun z => hb (by simp [z])) q)) hf (Nat.le_refl _) nw
    refine ⟨.ref s.heap.objs.size, _, J, rfl, ⟨_, x, rfl, I.hok.fresh (Nat.le_refl _), rfl, fun ys hy => by rw [I.list_inj hy hq]; exact hx⟩, ⟨⟨u1, ?_⟩, hit1.1.at fun o q => (sb.2 it (Ne.symm hne)).trans q, hne⟩, fun b hb => ?_⟩
    · have e1 : c + ((i + 1 : Nat) : Int) = c + (i : Int) + 1 := by omega
      rw [e1]
      exact he2
    · have lb : b < s.heap.objs.size := by
        rcases (show b = e ∨ b = it by simpa using hb) with rfl | rfl
        · exact le
        · exact li
      rw [upd_ne (Nat.ne_of_lt lb)]
      exact (hf b hb).1
  done := by
    intro X hP hw hK hc i pins s σ H E I hf st hg
    subst hP hw hK
    obtain ⟨⟨old, he⟩, hit, hne⟩ := st
    obtain ⟨xs, hq, hx⟩ := hg
    obtain ⟨its, rv, p, hz⟩ := I.list hq
    obtain ⟨f0, f1, f2, f3, f4, f5⟩ := hf it (by simp)
    have hl := rv.length
    have D := Draws.list (prog := X.prog) (w := X.w) (A := X.A.in1) (I.ok.hd hc) it a (ne_it p.isList hit) its.toArray
    obtain rfl : i = its.toArray.size := by
      rw [List.size_toArray]
      omega
    exact wpAny_pyNext_enum_endD D he ⟨hit, p.isList⟩ fun h' eb => ⟨rfl, I.turned (t' := s.toks) (fun b o hb q => eb b o hb q) f0 f1 f3 f4 f5⟩
  self := fun A i s Q E st h => let ⟨⟨_, he⟩, _⟩ := st; wpAny_pyIter_enum he h
section
variable {M : Model} {A : Around} {E : Value → Shared → Prop} {s : Shared} {env : Env}
theorem callWith_typeKw {pos : Pos} {T : String} {args : List (Bool × Sem Value)} {kw : List (Option Str × Sem Value)} {Q : Value → Shared → Prop} (hplain : args.any (·.1) = false) (hkw : kw.any (·.1.isNone) = false)
    (h : wpAny M A (evalArgs (.type T) true args kw) (fun a s₁ => wpAny M A (call (.type T) ([] ++ a.pos) a.kw) Q E s₁) E s) : wpAny M A (callWith pos (.type T) [] args kw) Q E s := by
  unfold callWith
  refine wpAny_bind (wpAny_holding (wpAny_mono h (fun a s1 h1 => wpAny_bind (wpAny_standAt ?_)) fun _ _ x => x))
  simp only [hplain, hkw, Bool.or_false]
  refine wpAny_bind (wpAny_pure ?_)
  exact wpAny_bind (wpAny_mono h1 (fun r s2 hr => wpAny_bind (wpAny_holding (wpAny_point (wpAny_pure hr)))) fun _ _ x => x)
end
def iEnumF (K : PySem.W.Frag) (ta tk : TA) : TI := fun σ H R => ta σ H fun vs H1 => tk σ H1 fun zs H2 => ∃ a xs k, vs = [.ref a] ∧ zs = [.int k] ∧ 0 ≤ k ∧ k < 2 ^ 62 ∧ SqL K H2 a xs ∧ R (IteF K k a) H2
theorem pi_enumF {X : Cx} {e : Expr} {kws : List Keyword} {ta tk : TA} {p pos tpos : Pos} {elts : List Expr} {kk : Nat} (hg : Gl X "enumerate") (hm : X.mg "enumerate" = none) (ha : PA X [e] ta) (hkw : PK X kws tk)
    (he : starEach [e] X.env = (false, eval e X.env) :: starEach [] X.env := by rfl) (hpl : (backTo pos (starEach [e] X.env)).any (·.1) = false := by rfl)
    (hall : (backToKw pos (keywordEach kws X.env)).all (·.1.isSome) = true := by rfl) (hnone : (backToKw pos (keywordEach kws X.env)).any (·.1.isNone) = false := by rfl) (hks : (backToKw pos (keywordEach kws X.env)).filterMap (·.1) = [Str.ofString "start"] := by rfl) :
    PI X (.Tuple elts kk tpos) (.Call (.Name "enumerate" p) [e] kws pos) (iEnumF X.K ta tk) := by
  refine ⟨fun pins s σ H R I h => ?_⟩
  refine wpAny_Call_Name_kw (ld_blt (u := .type "enumerate") I hg hm boot_enumerate (callWith_typeKw hpl hnone (evalArgs_kw2 hall (thn (ha.run pos pins s σ H _ I h) fun us s1 ⟨vs, H1, I1, r1, q1⟩ => thn (hkw.run pos pins s1 σ H1 _ I1 q1) fun ws s2 ⟨zs, H2, I2, r2, q2⟩ => ?_) he)) (by decide) (by decide))
  rw [hks]
  obtain ⟨a, xs, k, rfl, rfl, k0, k1, hq, q⟩ := q2
  obtain ⟨u, rfl, ru⟩ := vals1 r1
  obtain rfl : u = Value.ref a := ru
  obtain ⟨z, rfl, t, rfl⟩ := vals1 r2
  obtain ⟨its, rv, pl, hz⟩ := I2.list hq
  refine enum_begins_start (begins_list a its.toArray) pl.isList (by omega) (by omega) fun h' he hit hsz hk => wpAny_pyIter_enum he ?_
  have J : Inv X pins σ H2 { s2 with heap := h' } := I2.kept (t' := s2.toks) hk
  refine ⟨s2.heap.objs.size + 1, [s2.heap.objs.size + 1, s2.heap.objs.size], _, _, H2, rfl, J, turn_enumF k a (s2.heap.objs.size + 1) s2.heap.objs.size, ⟨⟨.none, ?_⟩, ⟨_, hit, rfl, rfl⟩, Nat.succ_ne_self _⟩, fun b hb => ?_, q⟩
  · have e0 : k + ((0 : Nat) : Int) = k := by simp
    rw [e0]
    exact he
  · have le : s2.heap.objs.size ≤ b := by
      rcases (show b = s2.heap.objs.size + 1 ∨ b = s2.heap.objs.size by simpa using hb) with z | z
      · rw [z]; exact Nat.le_add_right _ _
      · rw [z]; exact Nat.le_refl _
    exact I2.fpOk le (I2.hok.fresh le)
end Rz
namespace Rz
open PySem PySem.Spec PyProof.Rows L2
theorem walk_enumF {K : PySem.W.Frag} {k : Int} {a : Addr} {xs : List V} : Walk (IteF K k a) xs.length (fun H => SqL K H a xs) (fun i H v H' => ∃ T x, v = .ref T ∧ H T = none ∧ H' = upd H T (.tup [.int (k + (i : Nat)), x]) ∧ xs[i]? = some x) :=
  ⟨fun i H hi h => ⟨xs, _, h, List.getElem?_eq_getElem hi⟩, fun H h => ⟨xs, h, rfl⟩, fun i H v H' _ h y => by
    obtain ⟨T, x, e1, e2, e3, e4⟩ := y
    exact ⟨T, x, e1, e2, e3, e4 xs h⟩⟩
theorem joinL_len (s : List Nat) : ∀ ps : List (List Nat), (TL.joinL s ps).length ≤ (ps.map List.length).sum + ps.length * s.length
  | [] => by
    show ([] : List Nat).length ≤ _
    simp
  | [p] => by
    show p.length ≤ _
    simp
  | p :: q :: r => by
    have ih := joinL_len s (q :: r)
    have e : (TL.joinL s (p :: q :: r)).length = p.length + (s.length + (TL.joinL s (q :: r)).length) := by
      show (p ++ (s ++ TL.joinL s (q :: r))).length = _
      rw [List.length_append, List.length_append]
    have m : (p :: q :: r).length * s.length = s.length + (q :: r).length * s.length := by
      rw [List.length_cons, Nat.succ_mul, Nat.add_comm]
    rw [e, m, List.map_cons, List.sum_cons]
    omega
end Rz

namespace Rz
open PySem PySem.Spec PyProof.Rows L2
/-! ### o += x by an own __iadd__ that may let an exception out -/
section
variable {X : Cx} {k : Nat} {f C : Addr} {fd : FuncData} {ps : List Str} {sp : Sp} {E : EX}
def tIpX (C : Addr) (sp : Sp) (E : EX) : V → V → Hp → VK → Prop := fun x y H Q => ∃ a dx fs, x = .ref a ∧ H a = some (.ins C dx fs) ∧ ∀ σ, sp [x, y] H (fun v H' => (∃ b, v = .ref b) ∧ Q v H') (E σ)
theorem ip_ownX (M : Meth X.K C "__iadd__" f) (hc : PySem.W.selfFirst X.K C = true) (F : FnOk X.prog X.w X.K X.mg X.base (L2.CX X.prog X.w) k f fd ps sp) (hr : Room k X.A) (hb : Binds X.K fd ps []) (hx : ∀ σ, PassesAt (L2.CX X.prog X.w) X σ (E σ)) : PIp X .Add (tIpX C sp E) := by
  intro pins s σ H x y v u Q I r1 r2 h
  obtain ⟨a, dx, fs, rfl, ea, hq⟩ := h
  obtain rfl : v = Value.ref a := r1
  obtain ⟨od, J⟩ := inst_at I ea
  obtain ⟨m0, hF⟩ := I.fr
  have z := run_X (us := [.ref a, u]) (vs := [.ref a, y]) F hr rfl hb .nil (hx σ) I (.cons rfl (.cons r2 .nil)) (by rw [List.append_nil]; exact hq σ)
  refine PySem.W.ksp_inplace hF I.ok.mod.kin J hc M.at_ M.fn (wpAny_call (codeAny_mono z fun q s' hq => ?_))
  match q, hq with
  | .error er, hq => exact hq
  | .ok (.ret r), hq =>
    obtain ⟨z, H', J', rz, ⟨b, rfl⟩, q⟩ := hq
    obtain rfl : r = Value.ref b := rz
    exact ⟨.ref b, H', J', rfl, q⟩
  | .ok .next, hq => exact hq.elim
  | .ok .brk, hq => exact hq.elim
  | .ok .cont, hq => exact hq.elim
end
end Rz

namespace Rz
open PySem PySem.Spec PyProof.Rows L2 GenW
/-! ### if and for in the body of a generator -/
section
variable {M : Model} {A : Around} {R : GenEnd} {Y : Protocol} {n : Nat} {s₀ : Shared} {c : Code} {fs : List Frame} {s : Shared} {env : Env}
  {K : Flow → Sem PySem.Fin} {H : Value → Sem PySem.Fin} {gd : Bool → Bool} {lv : List Value → List Value}
theorem seg_iff_stmt {test : Expr} {body orelse : List Stmt} {pos : Pos}
    (h : wpAny M (A.over c fs) (isTrue test env (eval test env)) (fun b s' => if b = true then Seg M A R Y n s₀ c ((execs body env).wrap K H gd lv) fs s' else Seg M A R Y n s₀ c ((execs orelse env).wrap K H gd lv) fs s') (fun x s' => Seg M A R Y n s₀ c (H x) fs s') s) :
    Seg M A R Y n s₀ c ((exec (.If test body orelse pos) env).wrap K H gd lv) fs s := by
  show Seg M A R Y n s₀ c ((standAt pos >>= fun _ => isTrue test env (eval test env) >>= fun b => if b = true then execs body env else execs orelse env).wrap K H gd lv) fs s
  refine seg_bind_wrap (wpAny_standAt ?_)
  refine seg_bind_wrap (wpAny_mono h (fun b s' hb => ?_) fun _ _ z => z)
  cases b with
  | true => exact hb
  | false => exact hb
theorem seg_For {target iter : Expr} {body orelse : List Stmt} {pos : Pos}
    (h : wpAny M (A.over c fs) (eval iter env) (fun x s1 => wpAny M (A.over c fs) (pyIter x) (fun it s2 => ∀ p, Seg M A R Y n s₀ (.forLoop target it body orelse env) (M.den (.forLoop target it body orelse env))
      (.ret (fun r => ((match r with | .ok f => (.pure f : Sem Flow) | .error e => .raise e).onRaise (cameBack env)).wrap K H gd lv) none (gd false) (lv []) c p [] :: fs) s2)
      (fun x s' => Seg M A R Y n s₀ c (H x) fs s') s1) (fun x s' => Seg M A R Y n s₀ c (H x) fs s') s)
    (hs : ∀ x, foldedSetIterable iter env x = pure x) :
    Seg M A R Y n s₀ c ((exec (.For target iter body orelse pos) env).wrap K H gd lv) fs s := by
  rw [exec_For]
  refine seg_bind_wrap (wpAny_standAt ?_)
  refine seg_bind_wrap (wpAny_mono h (fun x s1 h1 => ?_) fun _ _ z => z)
  refine seg_bind_wrap (wpAny_of_eq (hs x) ?_)
  refine seg_bind_wrap (wpAny_standAt ?_)
  refine seg_bind_wrap (wpAny_holding (wpAny_mono h1 (fun it s2 h2 => ?_) fun _ _ z => z))
  exact seg_call h2
end
section
variable {prog : Program} {w : World} {A : Around} {R : GenEnd} {Y : Protocol} {n : Nat} {s₀ : Shared} {fs : List Frame} {s : Shared} {env : Env}
/-- what a loop's code does with an exception of its own -/
def noteX (env : Env) (e : Value) : Sem PySem.Fin := (do noteFrame e env; theTreesLotGoes e : Sem Unit).bind fun _ => .raise e
theorem seg_forLoop {target : Expr} {it : Value} {body orelse : List Stmt}
    (h : wpAny (model prog w) (A.over (.forLoop target it body orelse env) fs) (pyNext it) (fun r s1 => match r with
        | none => Seg (model prog w) A R Y n s₀ (.forLoop target it body orelse env) (.pure (.again (.block orelse env))) fs s1
        | some v => wpAny (model prog w) (A.over (.forLoop target it body orelse env) fs) (letOwnedTupleGo target it v) (fun _ s2 =>
            wpAny (model prog w) (A.over (.forLoop target it body orelse env) fs) (assign target env v) (fun _ s3 =>
              Seg (model prog w) A R Y n s₀ (.forLoop target it body orelse env) ((execs body env).wrap (fun f => ((match f with
                | .next | .cont => again (.forLoop target it body orelse env)
                | .brk => pure (.done .next)
                | .ret v => pure (.done (.ret v)) : Sem PySem.Fin)).wrap .pure (noteX env) id id) (noteX env) id id) fs s3)
              (fun x s' => Seg (model prog w) A R Y n s₀ (.forLoop target it body orelse env) (noteX env x) fs s') s2)
            (fun x s' => Seg (model prog w) A R Y n s₀ (.forLoop target it body orelse env) (noteX env x) fs s') s1)
      (fun x s' => Seg (model prog w) A R Y n s₀ (.forLoop target it body orelse env) (noteX env x) fs s') s) :
    Seg (model prog w) A R Y n s₀ (.forLoop target it body orelse env) ((model prog w).den (.forLoop target it body orelse env)) fs s := by
  show Seg _ A R Y n s₀ _ ((forTurn target it body orelse env).onRaise (fun x => do noteFrame x env; theTreesLotGoes x)) fs s
  rw [Sem.onRaise_eq_wrap]
  show Seg _ A R Y n s₀ _ ((forTurn target it body orelse env).wrap .pure (noteX env) id id) fs s
  unfold forTurn
  refine seg_bind_wrap (wpAny_standAt ?_)
  refine seg_bind_wrap (wpAny_onRaise (wpAny_mono h (fun r s1 h1 => ?_) fun _ _ z => wpAny_standAt z))
  cases r with
  | none => exact h1
  | some v =>
    refine seg_bind_wrap (wpAny_mono h1 (fun _ s2 h2 => ?_) fun _ _ z => z)
    refine seg_bind_wrap (wpAny_mono h2 (fun _ s3 h3 => ?_) fun _ _ z => z)
    rw [Sem.bind_eq_wrap', Sem.wrap_wrap]
    exact h3
end
section
variable {X : Cx} {st : Stmt} {rest : List Stmt} {pos : Pos}
theorem gss_one {t : TGn} (a : GS X st t) : GSs X [st] (tGThen t tG0) := gss_cons a gss_nil
def tGIf (c : TT) (t u : TGn) : TGn := fun D ys σ H => c σ H fun b H1 => if b = true then t D ys σ H1 else u D ys σ H1
theorem gs_if {c : Expr} {a b : List Stmt} {tc : TT} {t u : TGn} (hc : PT X c tc) (ha : GSs X a t) (hb : GSs X b u) : GS X (.If c a b pos) (tGIf tc t u) := by
  refine ⟨fun A S ip R n ys s₀ c' fs K J gd lv s σ H D g hn k hI ht => ?_⟩
  obtain ⟨acc, cc, r, I⟩ := hI
  refine seg_iff_stmt ?_
  rw [g.over]
  refine wpAny_mono (hc.run _ s σ H _ I ht) (fun d s1 q => ?_) fun x s' hx => k.exc n s₀ x s' hx
  obtain ⟨H1, I1, q1⟩ := q
  cases d with
  | true => exact ha.run A S ip R n ys s₀ c' fs K J gd lv s1 σ H1 D g hn k ⟨acc, cc, r, I1⟩ q1
  | false => exact hb.run A S ip R n ys s₀ c' fs K J gd lv s1 σ H1 D g hn k ⟨acc, cc, r, I1⟩ q1
/-- W: the invariant by the turn, a measure, what is out so far -/
def tGFor (wi : TI) (g : TG) (tb : TGn) : TGn := fun D ys σ H => wi σ H fun J H1 => ∃ W : Nat → Nat → List V → L2.St → Hp → Prop, (∃ m, W 0 m ys σ H1) ∧ ∀ i m ys σ H, W i m ys σ H →
  (J.stop i H ∧ D.nx ys σ H) ∨ (J.go i H ∧ ∃ N : List V → L2.St → Hp → Prop, (∀ ys' σ' H', N ys' σ' H' → ∃ m', m' < m ∧ W (i + 1) m' ys' σ' H') ∧ ∀ x H', J.yld i H x H' → g x σ H' fun σ2 H2 => tb { D with nx := N, ct := N, bk := D.nx } ys σ2 H2)
theorem gs_for {tg iter : Expr} {body : List Stmt} {wi : TI} {gg : TG} {tb : TGn} (hp : PassesOwn (model X.prog X.w) X.A X.env X.xe) (hc : X.calm = true) (hi : PI X tg iter wi) (hg : PG X tg gg) (hb : GSs X body tb)
    (hs : ∀ x, foldedSetIterable iter X.env x = pure x := by intro _; rfl) : GS X (.For tg iter body [] pos) (tGFor wi gg tb) := by
  refine ⟨fun A S ip R n ys s₀ c fs K J gd lv s σ H D g hn k hI ht => ?_⟩
  obtain ⟨acc0, cc0, r0, I0⟩ := hI
  refine seg_For ?_ hs
  rw [g.over]
  refine wpAny_mono (hi.run _ s σ H _ I0 ht) (fun v s1 h1 => wpAny_mono h1 (fun itv s2 h2 p => ?_) fun x s' hx => k.exc n s₀ x s' hx) fun x s' hx => k.exc n s₀ x s' hx
  obtain ⟨it, fp, tn, Jt, H2, rfl, I2, T, st2, f2, W, ⟨m0, w0⟩, turn⟩ := h2
  have stat : ∀ {H' : Hp} {acc : Array Value} {cc : Nat}, (∀ b ∈ fp, H' b = none) → ∀ b ∈ fp, FpOk X ((S, lstObj acc cc) :: ip) H' b := fun {H' acc cc} hn b hb => by
    obtain ⟨_, f1, f3, f4, f5, f6⟩ := f2 b hb
    refine ⟨hn b hb, f1, f3, f4, f5, fun p hp => ?_⟩
    rcases List.mem_append.mp hp with z | z
    · exact f6 p (List.mem_append_left _ z)
    · rcases List.mem_cons.mp z with z | z
      · rw [z]
        exact f6 (S, lstObj acc0 cc0) (List.mem_append_right _ List.mem_cons_self)
      · exact f6 p (List.mem_append_right _ (List.mem_cons_of_mem _ z))
  have gl := fun (kk : Result → Sem PySem.Fin) => gc_loop (k := kk) (c' := .forLoop tg (.ref it) body [] X.env) (l := lv []) (kp := []) (p := p) g rfl rfl
  have gb := fun (kk : Result → Sem PySem.Fin) => gc_loop (k := kk) (c' := .block [] X.env) (l := lv []) (kp := []) (p := p) g rfl rfl
  have loop : ∀ (m i n : Nat) (ys : List V) (s₀ s : Shared) (σ : L2.St) (H : Hp), n + ys.length = sizeLine → W i m ys σ H → GI X S ip ys σ H s → tn i s.heap → (∀ b ∈ fp, H b = none) →
      Seg (model X.prog X.w) A R (GY X S) n s₀ (.forLoop tg (.ref it) body [] X.env) ((model X.prog X.w).den (.forLoop tg (.ref it) body [] X.env))
        (.ret (fun r => ((match r with | .ok f => (.pure f : Sem Flow) | .error e => .raise e).onRaise (cameBack X.env)).wrap K J gd lv) none (gd false) (lv []) c p [] :: fs) s := by
    intro m
    induction m using Nat.strongRecOn with
    | ind m ih =>
      intro i n ys s₀ s σ H hn w hI hst hfr
      have ee : ∀ (n : Nat) (s₀ : Shared) (x : Value) (s' : Shared), X.xe x s' → Seg (model X.prog X.w) A R (GY X S) n s₀ (.forLoop tg (.ref it) body [] X.env) (noteX X.env x)
          (.ret (fun r => ((match r with | .ok f => (.pure f : Sem Flow) | .error e => .raise e).onRaise (cameBack X.env)).wrap K J gd lv) none (gd false) (lv []) c p [] :: fs) s' := fun n s₀ x s' hx => by
        unfold noteX
        rw [Sem.bind_eq_wrap]
        refine seg_wrap ?_
        rw [(gl _).over]
        refine wpAny_bind (wpAny_mono (hp x s' hx) (fun _ s'' hcb => wpAny_theTreesLotGoes ?_) fun y s'' hcb => ?_)
        · exact seg_leaf (.error x) (seg_cameBack g k hcb)
        · exact seg_leaf (.error y) (seg_cameBack g k hcb)
      obtain ⟨acc, cc, r, I⟩ := hI
      refine seg_forLoop ?_
      rw [(gl _).over]
      rcases turn i m ys σ H w with ⟨stop, qn⟩ | ⟨go, N, hN, step⟩
      · refine wpAny_mono (T.done X rfl rfl rfl hc i _ s σ H X.xe I (stat hfr) hst stop) (fun r s4 q => ?_) fun x s' hx => ee n s₀ x s' hx
        obtain ⟨hr, I4⟩ := q
        subst hr
        refine seg_again rfl ?_
        exact seg_leaf (.ok .next) (k.ok n ys s₀ s4 .next hn ⟨σ, H, ⟨acc, cc, ‹_›, I4⟩, qn⟩)
      · refine wpAny_mono (T.item X rfl rfl rfl hc i _ s σ H X.xe I (stat hfr) hst go) (fun r s4 q => ?_) fun x s' hx => ee n s₀ x s' hx
        obtain ⟨u, hr, h4⟩ := q
        subst hr
        refine wpAny_mono h4 (fun _ s5 q5 => ?_) fun x s' hx => ee n s₀ x s' hx
        obtain ⟨x, H5, I5, r5, y5, st5, fr5⟩ := q5
        have I5' := I5.pinned (stat fr5) (T.obj _ _ st5)
        refine wpAny_mono (hg.run _ s5 σ H5 x u _ I5' r5 (step x H5 y5)) (fun _ s6 q6 => ?_) fun x s' hx => ee n s₀ x s' hx
        obtain ⟨σ6, H6, I6, q6⟩ := q6
        have g2 : ∀ kk, GC X S (ip ++ pinsAt fp s5.heap) A (.forLoop tg (.ref it) body [] X.env) (.ret kk none (gd false) (lv []) c p [] :: fs) id := fun kk =>
          ⟨(gl kk).pn, fun q hq => (List.mem_append.mp hq).elim (fun z => g.ip q z) fun z => fun e => (f2 q.1 (of_pinsAt z).1).2.2.2.2.2 (S, lstObj acc0 cc0) (List.mem_append_right _ List.mem_cons_self) e.symm, (gl kk).apart, (gl kk).over, (gl kk).split, (gl kk).guard, (gl kk).gd⟩
        have back : ∀ {ys' : List V} {σ7 : L2.St} {H7 : Hp} {s7 : Shared}, GI X S (ip ++ pinsAt fp s5.heap) ys' σ7 H7 s7 → GI X S ip ys' σ7 H7 s7 := fun {ys' σ7 H7 s7} h => by
          obtain ⟨acc7, cc7, r7, I7⟩ := h
          exact ⟨acc7, cc7, r7, Inv.unpinned (pins := (S, lstObj acc7 cc7) :: ip) I7⟩
        have still : ∀ {ys' : List V} {σ7 : L2.St} {H7 : Hp} {s7 : Shared}, GI X S (ip ++ pinsAt fp s5.heap) ys' σ7 H7 s7 → tn (i + 1) s7.heap ∧ ∀ b ∈ fp, H7 b = none := fun {ys' σ7 H7 s7} h => by
          obtain ⟨acc7, cc7, r7, I7⟩ := h
          refine ⟨T.keep _ _ _ st5 fun b hb o e => (I7.pin (b, o) (List.mem_append_right _ (List.mem_cons_of_mem _ (List.mem_append_right _ (mem_pinsAt hb e))))).1, fun b hb => ?_⟩
          obtain ⟨o, e, d⟩ := T.obj _ _ st5 b hb
          exact (I7.pin (b, o) (List.mem_append_right _ (List.mem_cons_of_mem _ (List.mem_append_right _ (mem_pinsAt hb e))))).2.1
        refine hb.run A S (ip ++ pinsAt fp s5.heap) R n ys s₀ _ _ _ _ id id s6 σ6 H6 { D with nx := N, ct := N, bk := D.nx } (g2 _) hn ⟨fun n' ys' s₀' s7 f hn' hs => ?_, fun n' s₀' x s3 hx => ee n' s₀' x s3 hx⟩ ⟨acc, cc, ‹_›, I6⟩ q6
        cases f with
        | next =>
          obtain ⟨σ7, H7, I7, n7⟩ := hs
          obtain ⟨m', hm, w7⟩ := hN ys' σ7 H7 n7
          obtain ⟨t7, f7⟩ := still I7
          exact seg_again rfl (ih m' hm (i + 1) n' ys' s₀' s7 σ7 H7 hn' w7 (back I7) t7 f7)
        | cont =>
          obtain ⟨σ7, H7, I7, n7⟩ := hs
          obtain ⟨m', hm, w7⟩ := hN ys' σ7 H7 n7
          obtain ⟨t7, f7⟩ := still I7
          exact seg_again rfl (ih m' hm (i + 1) n' ys' s₀' s7 σ7 H7 hn' w7 (back I7) t7 f7)
        | brk =>
          obtain ⟨σ7, H7, I7, q7⟩ := hs
          exact seg_leaf (.ok .next) (k.ok n' ys' s₀' s7 .next hn' ⟨σ7, H7, back I7, q7⟩)
        | ret v =>
          obtain ⟨x7, σ7, H7, I7, r7, q7⟩ := hs
          exact seg_leaf (.ok (.ret v)) (k.ok n' ys' s₀' s7 (.ret v) hn' ⟨x7, σ7, H7, back I7, r7, q7⟩)
  exact loop m0 0 n ys s₀ s2 σ H2 hn w0 ⟨acc0, cc0, r0, I2⟩ st2 fun b hb => (f2 b hb).1
/-- a for over a walk: Pv by the turn, what is out, the slots and the heap -/
theorem gfor_it {J : It} {n : Nat} {G : Hp → Prop} {Y : Nat → Hp → V → Hp → Prop} (w : Walk J n G Y) {g : TG} {tb : TGn} {D : GEnds} {ys : List V} {σ : L2.St} {H : Hp} (Pv : Nat → List V → L2.St → Hp → Prop) (h0 : Pv 0 ys σ H) (hG : ∀ i ys σ H, i ≤ n → Pv i ys σ H → G H)
    (hs : ∀ i x ys σ H H', i < n → Pv i ys σ H → Y i H x H' → g x σ H' fun σ2 H2 => tb { D with nx := Pv (i + 1), ct := Pv (i + 1), bk := D.nx } ys σ2 H2) (hd : ∀ ys σ H, Pv n ys σ H → D.nx ys σ H) :
    ∃ W : Nat → Nat → List V → L2.St → Hp → Prop, (∃ m, W 0 m ys σ H) ∧ ∀ i m ys σ H, W i m ys σ H →
      (J.stop i H ∧ D.nx ys σ H) ∨ (J.go i H ∧ ∃ N : List V → L2.St → Hp → Prop, (∀ ys' σ' H', N ys' σ' H' → ∃ m', m' < m ∧ W (i + 1) m' ys' σ' H') ∧ ∀ x H', J.yld i H x H' → g x σ H' fun σ2 H2 => tb { D with nx := N, ct := N, bk := D.nx } ys σ2 H2) := by
  refine ⟨fun i m ys σ H => m = n - i ∧ i ≤ n ∧ Pv i ys σ H, ⟨n, by simp, Nat.zero_le _, h0⟩, ?_⟩
  rintro i m ys σ H ⟨rfl, hi, p⟩
  have q := hG i ys σ H hi p
  by_cases hlt : i < n
  · exact .inr ⟨w.goes i H hlt q, Pv (i + 1), fun ys' σ' H' p' => ⟨n - (i + 1), by omega, rfl, hlt, p'⟩, fun x H' y => hs i x ys σ H H' hlt p (w.yields i H x H' hlt q y)⟩
  · have e : i = n := by omega
    subst e
    exact .inl ⟨w.stops H q, hd ys σ H p⟩
end
end Rz
namespace Rz
open PySem PySem.Spec PyProof.Rows L2 GenW
/-- a generator def by its body -/
theorem gfn_by {P : Program} {w : World} {K : PySem.W.Frag} {mg : Str → Option Value} {base : Heap} {k : Nat} {x qual : Str} {st : Stmt} {f : Addr} {fd : FuncData} {N ps : List Str} {sp : SpG} (F : Fun K x qual st f fd) (S : GScope N ps (defScope st)) (len : ∀ vs H Q E, sp vs H Q E → vs.length = ps.length)
    (hbody : ∀ (cdv : Value) (A : Around) (outer : List Env) (s : Shared) (H : Hp) (vs : List V) (Q : List V → Hp → Prop) (E : XK) (pn : List (Addr × Obj)), Room k (A.deeper (envOfC qual (defScope st) s.heap.objs.size f cdv)) → sp vs H Q E →
      ∃ t, GSs (gcxOf P w K mg base N qual (defScope st) f cdv A outer s H E pn) (defBody st) t ∧ t { nx := fun ys _ H' => Q ys H', rt := fun ys v H' => v = .non ∧ Q ys H' } [] (start N vs) H) : GFn P w K mg base (k + 1) f fd ps sp := by
  obtain ⟨oc, od, kV, doc, pm, an, cdv, ct, osl, rfl, lk, hcd⟩ := F.ex
  exact gfn_of lk hcd S len fun A outer s H vs Q E pn hr hsp => hbody cdv A outer s H vs Q E pn hr hsp
end Rz

namespace Rz
open PySem PySem.Spec PyProof.Rows L2
/-! ### o.replace(c[i], d[j]): the two signs are new texts, one younger than the other -/
def PETk (X : Cx) (m : Nat) (e : Expr) (te : TE) : Prop := ∀ (pins : List (Addr × Obj)) (s : Shared) (σ : L2.St) (H : Hp) (Q : VK), Inv X pins σ H s → te σ H Q →
  wpAny (model X.prog X.w) X.A (eval e X.env) (fun u s' => ∃ (z : Str) (t : Tok) (H' : Hp), u = .str z t ∧ s.toks + m ≤ t ∧ t < s'.toks ∧ Inv X pins σ H' s' ∧ Q (.str z) H') X.xe s
section
variable {X : Cx} {a b o e1 e2 : Expr} {ta tb to t1 t2 : TE} {cst : Str} {j : Nat} {pos apos p p' : Pos}
theorem tail_tok {value slice : Expr} {pins : List (Addr × Obj)} {s s2 : Shared} {σ : L2.St} {H : Hp} {x y : V} {v u : Value} {Q : VK} {m : Nat} (I : Inv X pins σ H s2) (rx : RelV x v) (ry : RelV y u) (h : rIxS x y H Q) (k : s.toks + m ≤ s2.toks)
    (hs : subscripted slice false v u = operate [v, u] (getItem v u)) : wpAny (model X.prog X.w) X.A (subscriptTail value slice v u) (fun u s' => ∃ (z : Str) (t : Tok) (H' : Hp), u = .str z t ∧ s.toks + m ≤ t ∧ t < s'.toks ∧ Inv X pins σ H' s' ∧ Q (.str z) H') X.xe s2 := by
  obtain ⟨z, i, c, rfl, rfl, hz, he, q⟩ := h
  obtain ⟨t, rfl⟩ := rx
  obtain ⟨t', rfl⟩ := ry
  obtain ⟨j, h1, h2, h3, h4, h5⟩ := atI_get he
  have hl : z.cps.toList.length = z.length := by simp [Str.length]
  rw [hl] at h1 h4 h5
  have hn := line63
  exact tail_any (typeIs_str s2 z t) slot_str_getitem.lookup (getItem_str (c := c) (by
    have e1 : decide (i < -(2 ^ 63 : Int)) = false := decide_eq_false (by omega)
    have e2 : decide (i ≥ 2 ^ 63) = false := decide_eq_false (by omega)
    rw [e1, e2, Bool.or_false]) (by rw [h1]; simpa using h2) ⟨⟨#[c]⟩, s2.toks, H, rfl, k, Nat.lt_succ_self _, I.tok _, q⟩) hs
theorem pk_ix (ha : PE X a ta) (hb : PE X b tb) (hs : PlainIx b) : PETk X 0 (.Subscript a b pos) (tOp rIxS ta tb) := by
  intro pins s σ H Q I h
  refine Subscript_ (PySem.wpAny_with_toks (Nat.le_refl s.toks) (wpAny_mono (ha.run pins s σ H _ I h) (fun v s1 q1 k1 => ?_) fun _ _ x _ => x))
  obtain ⟨x, H1, I1, r1, q1⟩ := q1
  refine PySem.wpAny_with_toks k1 (wpAny_mono (hb.run pins s1 σ H1 _ I1 q1) (fun u s2 q2 k2 => ?_) fun _ _ x _ => x)
  obtain ⟨y, H2, I2, r2, q2⟩ := q2
  exact tail_tok I2 r1 r2 q2 k2 (hs _ _)
theorem pk_ixc (hb : PE X b tb) (hs : PlainIx b) : PETk X 1 (.Subscript (.Constant (.str cst) j p) b pos) (tOp rIxS (tC (.str cst)) tb) := by
  intro pins s σ H Q I h
  refine Subscript_ (Calls.Constant_str ?_)
  have I1 : Inv X pins σ H { s with toks := s.toks + 1 } := I.tok (s.toks + 1)
  refine PySem.wpAny_with_toks (n := s.toks + 1) (Nat.le_refl _) (wpAny_mono (hb.run pins _ σ H _ I1 h) (fun u s2 q2 k2 => ?_) fun _ _ x _ => x)
  obtain ⟨y, H2, I2, r2, q2⟩ := q2
  exact tail_tok I2 (show RelV (.str cst) (.str cst s.toks) from ⟨s.toks, rfl⟩) r2 q2 k2 (hs _ _)
def tRep2 (to t1 t2 : TE) : TE := fun σ H Q => to σ H fun x H1 => ∃ a, x = .str a ∧ t1 σ H1 fun y H2 => t2 σ H2 fun z H3 => ∃ b c, y = .str b ∧ z = .str c ∧ (b == c) = false ∧ a.length + (a.length + 1) * c.length ≤ 16777216 ∧ Q (.str (Txt.replace a b c)) H3
theorem pe_rep2 (ho : PE X o to) (hc : PETk X 1 e1 t1) (hd : PETk X 0 e2 t2) (hst : starEach [e1, e2] X.env = [(false, eval e1 X.env), (false, eval e2 X.env)] := by rfl)
    (hbase : attributeBase o "replace" X.env (eval o X.env) = eval o X.env := by rfl) (hline : (apos.endLine == pos.line) = true := by rfl) :
    PE X (.Call (.Attribute o "replace" apos) [e1, e2] [] pos) (tRep2 to t1 t2) := by
  refine ⟨fun pins s σ H Q I h => ?_⟩
  refine PySem.Call_method2 hbase hst hline (thn (ho.run pins s σ H _ I h) fun v s1 ⟨x, H1, I1, r1, a, ea, q⟩ => ?_)
  subst ea
  obtain ⟨tx, rfl⟩ := r1
  refine ⟨"str", _, PySem.F.plainAttrs_str, PySem.F.slot_str_replace, PySem.F.type_str_replace, typeIs_str _ _ _, (fun _ e => nomatch e), Calls.callWith_builtin rfl (Calls.evalArgs_plain (Calls.spliced_cons ?_))⟩
  refine thn (hc pins s1 σ H1 _ I1 q) fun u s2 h2 => ?_
  obtain ⟨z, t, H2, eu, k1, k2, I2, q2⟩ := h2
  subst eu
  refine Calls.spliced_cons (thn (hd pins s2 σ H2 _ I2 q2) fun u' s3 h3 => ?_)
  obtain ⟨z', t', H3, eu', k3, k4, I3, q3⟩ := h3
  subst eu'
  refine Calls.spliced_nil ?_
  obtain ⟨b, c, e1, e2, hyz, hb, q⟩ := q3
  cases e1
  cases e2
  have n1 : t ≠ 0 := fun z => by rw [z] at k1; exact absurd k1 (Nat.not_succ_le_zero _)
  have l3 : t < t' := Nat.lt_of_lt_of_le k2 k3
  have n2 : t' ≠ 0 := fun z => by rw [z] at l3; exact absurd l3 (Nat.not_lt_zero _)
  have n3 : t ≠ t' := Nat.ne_of_lt l3
  exact PySem.SC.replace n1 n2 n3 hyz hb fun t' k => ⟨.str _, H3, I3.tok k, ⟨t', rfl⟩, q⟩
end
/-- one sign for one sign -/
theorem repl_one (d c : Nat) : ∀ l : List Nat, StrLaws.replL [d] [c] l = l.map fun e => if e = d then c else e
  | [] => StrLaws.replL_nil
  | e :: r => by
    by_cases h : e = d
    · subst h
      rw [StrLaws.replL_hit (by simp) (by simp), List.map_cons, if_pos rfl]
      show [c] ++ StrLaws.replL [e] [c] r = _
      rw [repl_one e c r]
      rfl
    · rw [StrLaws.replL_miss (by simpa using h), List.map_cons, if_neg h, repl_one d c r]
def mapT (f : Nat → Nat) (x : Str) : Str := ⟨(x.cps.toList.map f).toArray⟩
theorem mapT_list (f : Nat → Nat) (x : Str) : (mapT f x).cps.toList = x.cps.toList.map f := by
  unfold mapT
  rfl
theorem str_ext {x y : Str} (h : x.cps.toList = y.cps.toList) : x = y := by
  have d := Array.toList_inj.mp h
  cases x
  cases y
  exact congrArg Str.mk d
theorem replace_map (x : Str) (d c : Nat) : Txt.replace x ⟨#[d]⟩ ⟨#[c]⟩ = mapT (fun e => if e = d then c else e) x := by
  refine str_ext ?_
  rw [mapT_list, StrLaws.replace_list (by show 1 ≤ 1; exact Nat.le_refl 1)]
  exact repl_one d c _
end Rz

namespace Rz
open PySem PySem.Spec PyProof.Rows L2
/-! ### enumerate(tuple) -/
theorem enu_new {v : Value} {ob : Obj} {G : Heap → Prop} (B : Begins v ob G) : Meets (Builtin.«enumerate.__new__» ⟨[.type "enumerate", v], []⟩) (fun _ R s => G s.heap ∧
    R (.ok (.ret (.ref (s.heap.push ob).objs.size))) { s with heap := (s.heap.push ob).push { cls := .type "enumerate", data := .fields #[.none, .bool false, .ref s.heap.objs.size, rawInt 0, .none, .none] } }) :=
  .of_wp fun prog w A R s h => by
    obtain ⟨hp, gens, dr, tk, os⟩ := s
    obtain ⟨hG, h⟩ := h
    have hsub := sub_enumerate
    have qq : ∀ {A2 : Around} {E2 Q2 : Value → Shared → Prop}, Q2 (.ref hp.objs.size) ⟨hp.push ob, gens, dr, tk, os⟩ → wpAny (model prog w) A2 (pyIter v) Q2 E2 ⟨hp, gens, dr, tk, os⟩ := fun z => B.iter prog w _ _ ⟨hp, gens, dr, tk, os⟩ _ hG z
    wp_walk using qq
    refine wpAny_stack_any fun stk => ?_
    refine wpAny_pure ?_
    split
    · rename_i cc _ _ _ _ _
      cases (cc == Value.type "enumerate")
      case' false => wp_walk using qq
      case' true => wp_walk using qq
      all_goals exact ⟨_, rfl, h⟩
    · wp_walk using qq
      exact ⟨_, rfl, h⟩
section
variable {prog : Program} {w : World} {A : Around} {E : Value → Shared → Prop} {s : Shared}
theorem enu_begins {v : Value} {ob : Obj} {G : Heap → Prop} {Q : Value → Shared → Prop} (B : Begins v ob G) (hG : G s.heap)
    (h : ∀ h2, IsEnum h2 (s.heap.objs.size + 1) s.heap.objs.size 0 .none → h2.get? s.heap.objs.size = some ob → (∀ b o, s.heap.get? b = some o → h2.get? b = some o) → Q (.ref (s.heap.objs.size + 1)) { s with heap := h2 }) :
    wpAny (model prog w) A (call (.type "enumerate") [v]) Q E s := by
  refine callType_new F.called_enumerate (by decide) (F.typeCall_enumerate_1 _) (F.newCall_enumerate_1 _) (fun x => F.args_object_init_2 x _) F.entry_enumerate_new (enu_new B) ⟨hG, ?_⟩
  have hsz : (s.heap.push ob).objs.size = s.heap.objs.size + 1 := Heap.size_push ..
  show _ ∧ _
  rw [hsz]
  have en : IsEnum ((s.heap.push ob).push { cls := .type "enumerate", data := .fields #[.none, .bool false, .ref s.heap.objs.size, rawInt 0, .none, .none] }) (s.heap.objs.size + 1) s.heap.objs.size 0 .none := by
    have z := Heap.get?_push_size (s.heap.push ob) (o := { cls := .type "enumerate", data := .fields #[.none, .bool false, .ref s.heap.objs.size, rawInt 0, .none, .none] }) rfl
    rw [hsz] at z
    exact z
  exact ⟨⟨_, en, rfl⟩, h _ en (Heap.get?_push_of_some _ (Heap.get?_push_size _ B.free)) fun b o x => Heap.get?_push_of_some _ (Heap.get?_push_of_some _ x)⟩
end
/-- the tuple at a, each item in a new pair with its number -/
def IteT (K : PySem.W.Frag) (a : Addr) : It :=
  ⟨fun i H => ∃ (xs : List V) (x : V), SqT K H a xs ∧ xs[i]? = some x, fun i H v H' => ∃ T x, v = .ref T ∧ H T = none ∧ H' = upd H T (.tup [.int (i : Nat), x]) ∧ ∀ xs, SqT K H a xs → xs[i]? = some x, fun i H => ∃ xs : List V, SqT K H a xs ∧ i = xs.length⟩
theorem tne_it {h : Heap} {a it : Addr} {items : Array Value} {i : Nat} (l : IsTup h a items) (t : h.IsTupleIter it a i) : a ≠ it := fun z => by
  obtain ⟨o1, h1, c1, _⟩ := l
  obtain ⟨o2, h2, c2, _⟩ := t
  rw [z, h2] at h1
  obtain rfl := Option.some.inj h1
  rw [c2] at c1
  exact absurd c1 (by decide)
theorem tne_en {h : Heap} {a e it : Addr} {items : Array Value} {c : Int} {old : Value} (l : IsTup h a items) (t : IsEnum h e it c old) : a ≠ e := fun z => by
  obtain ⟨o1, h1, c1, _⟩ := l
  have h2 : h.get? e = _ := t
  rw [z, h2] at h1
  obtain rfl := Option.some.inj h1
  exact absurd (show Value.type "enumerate" = Value.type "tuple" from c1) (by decide)
theorem turn_enumT {P : Program} {w : World} {K : PySem.W.Frag} {elts : List Expr} {kk : Nat} {tpos : Pos} (a e it : Addr) :
    Turn P w K (.Tuple elts kk tpos) (IteT K a) [e, it] e (fun i h => (∃ old, IsEnum h e it ((i : Nat) : Int) old) ∧ h.IsTupleIter it a i ∧ e ≠ it) where
  mem := by simp
  obj := fun i h st b hb => by
    obtain ⟨⟨old, he⟩, ⟨o, ho, hc, hd⟩, _⟩ := st
    rcases (show b = e ∨ b = it by simpa using hb) with rfl | rfl
    · exact ⟨_, he, fun v q => nomatch q⟩
    · exact ⟨o, ho, fun v q => by rw [hd] at q; cases q⟩
  keep := fun i h h' st k => let ⟨⟨old, he⟩, hi, hne⟩ := st; ⟨⟨old, k e (by simp) _ he⟩, hi.at fun o q => k it (by simp) o q, hne⟩
  item := by
    intro X hP hw hK hc i pins s σ H E I hf st hg
    subst hP hw hK
    obtain ⟨⟨old, he⟩, hit, hne⟩ := st
    obtain ⟨xs, x, hq, hx⟩ := hg
    obtain ⟨its, rv, p, hz⟩ := I.tuple hq
    obtain ⟨u, hu, ru⟩ := rv.get hx
    have le : e < s.heap.objs.size := Heap.lt_size he
    have li : it < s.heap.objs.size := by obtain ⟨_, q, _⟩ := hit; exact Heap.lt_size q
    have D := Draws.tuple (prog := X.prog) (w := X.w) (A := X.A.in1) (I.ok.hd hc) it a (tne_it p hit) its.toArray
    have lt : i < its.toArray.size := by
      have q := (List.getElem?_eq_some_iff.mp hu).1
      rw [List.size_toArray]
      exact q
    refine wpAny_pyNext_enum_itemC D he ⟨hit, p⟩ lt hne (by
      have q := tne_en p he
      simp [hne, Ne.symm q]) fun u1 h1 tk hu1 ho hit1 hT hsz hk => ?_
    obtain rfl : u1 = u := by
      rw [List.getElem?_toArray, hu] at hu1
      exact (Option.some.inj hu1).symm
    refine ⟨_, rfl, wpAny_letOwnedTupleGo_enum (s := { s with heap := h1, toks := tk + 1 }) ho fun h2 he2 sb => ?_⟩
    have at2 : h2.get? s.heap.objs.size = some { cls := .type "tuple", data := .seq #[.int (i : Nat) tk, u1] } := (sb.2 _ (Nat.ne_of_gt le)).trans hT
    have nw : ObjOk X.prog X.w (upd H s.heap.objs.size (.tup [.int (i : Nat), x])) h2 s.heap.objs.size (.tup [.int (i : Nat), x]) :=
      ⟨by show 2 ≤ sizeLine; decide, [.int (i : Nat) tk, u1], .cons ⟨_, rfl⟩ (.cons ru .nil), ⟨_, at2, rfl, _, rfl⟩⟩
    have J : Inv X pins σ (upd H s.heap.objs.size (.tup [.int (i : Nat), x])) { s with heap := h2, toks := tk + 1 } :=
      I.turnedNew (t' := tk + 1) (ch := [e, it]) (fun b ob hb q => (sb.2 b (fun z => hb (by simp [z]))).trans (hk b ob (fun z => hb (by simp [z])) (fun z => hb (by simp [z])) q)) hf (Nat.le_refl _) nw
    refine ⟨.ref s.heap.objs.size, _, J, rfl, ⟨_, x, rfl, I.hok.fresh (Nat.le_refl _), rfl, fun ys hy => by rw [I.tuple_inj hy hq]; exact hx⟩, ⟨⟨u1, ?_⟩, hit1.1.at fun o q => (sb.2 it (Ne.symm hne)).trans q, hne⟩, fun b hb => ?_⟩
    · have e1 : ((i + 1 : Nat) : Int) = (i : Int) + 1 := by omega
      rw [e1]
      exact he2
    · have lb : b < s.heap.objs.size := by
        rcases (show b = e ∨ b = it by simpa using hb) with rfl | rfl
        · exact le
        · exact li
      rw [upd_ne (Nat.ne_of_lt lb)]
      exact (hf b hb).1
  done := by
    intro X hP hw hK hc i pins s σ H E I hf st hg
    subst hP hw hK
    obtain ⟨⟨old, he⟩, hit, hne⟩ := st
    obtain ⟨xs, hq, hx⟩ := hg
    obtain ⟨its, rv, p, hz⟩ := I.tuple hq
    obtain ⟨f0, f1, f2, f3, f4, f5⟩ := hf it (by simp)
    have hl := rv.length
    have D := Draws.tuple (prog := X.prog) (w := X.w) (A := X.A.in1) (I.ok.hd hc) it a (tne_it p hit) its.toArray
    obtain rfl : i = its.toArray.size := by
      rw [List.size_toArray]
      omega
    exact wpAny_pyNext_enum_endD D he ⟨hit, p⟩ fun h' eb => ⟨rfl, I.turned (t' := s.toks) (fun b o hb q => eb b o hb q) f0 f1 f3 f4 f5⟩
  self := fun A i s Q E st h => let ⟨⟨_, he⟩, _⟩ := st; wpAny_pyIter_enum he h
def iEnumT (K : PySem.W.Frag) (ta : TA) : TI := fun σ H R => ta σ H fun vs H1 => ∃ a xs, vs = [.ref a] ∧ SqT K H1 a xs ∧ R (IteT K a) H1
theorem pi_enumT {X : Cx} {e : Expr} {ta : TA} {p pos tpos : Pos} {elts : List Expr} {kk : Nat} (hg : Gl X "enumerate") (hm : X.mg "enumerate" = none) (ha : PA X [e] ta) (hs : starEach [e] X.env = [(false, eval e X.env)] := by rfl) :
    PI X (.Tuple elts kk tpos) (.Call (.Name "enumerate" p) [e] [] pos) (iEnumT X.K ta) := by
  refine ⟨fun pins s σ H R I h => ?_⟩
  refine Call_ (ld_blt I hg hm boot_enumerate (PyProof.Rows.callWith_type1 (thn (ha.run pos pins s σ H _ I h) fun us s1 ⟨vs, H1, I1, r1, q1⟩ => ?_) hs rfl))
  obtain ⟨a, xs, rfl, hq, q⟩ := q1
  obtain ⟨u, rfl, ru⟩ := vals1 r1
  obtain rfl : u = Value.ref a := ru
  obtain ⟨its, rv, pl, hz⟩ := I1.tuple hq
  refine enu_begins (begins_tuple a its.toArray) pl fun h' he hit hk => wpAny_pyIter_enum he ?_
  have J : Inv X pins σ H1 { s1 with heap := h' } := I1.kept (t' := s1.toks) hk
  refine ⟨s1.heap.objs.size + 1, [s1.heap.objs.size + 1, s1.heap.objs.size], _, _, H1, rfl, J, turn_enumT a (s1.heap.objs.size + 1) s1.heap.objs.size, ⟨⟨.none, he⟩, ⟨_, hit, rfl, rfl⟩, Nat.succ_ne_self _⟩, fun b hb => ?_, q⟩
  have le : s1.heap.objs.size ≤ b := by
    rcases (show b = s1.heap.objs.size + 1 ∨ b = s1.heap.objs.size by simpa using hb) with z | z
    · rw [z]; exact Nat.le_add_right _ _
    · rw [z]; exact Nat.le_refl _
  exact I1.fpOk le (I1.hok.fresh le)
theorem walk_enumT {K : PySem.W.Frag} {a : Addr} {xs : List V} : Walk (IteT K a) xs.length (fun H => SqT K H a xs) (fun i H v H' => ∃ T x, v = .ref T ∧ H T = none ∧ H' = upd H T (.tup [.int (i : Nat), x]) ∧ xs[i]? = some x) :=
  ⟨fun i H hi h => ⟨xs, _, h, List.getElem?_eq_getElem hi⟩, fun H h => ⟨xs, h, rfl⟩, fun i H v H' _ h y => by
    obtain ⟨T, x, e1, e2, e3, e4⟩ := y
    exact ⟨T, x, e1, e2, e3, e4 xs h⟩⟩
end Rz

namespace Rz
open PySem PySem.Spec PyProof.Rows L2
/-! ### o.m(e, .., k = v) -/
section
variable {X : Cx} {CX : CXT} {k n : Nat} {f C : Addr} {fd : FuncData} {ps ks : List Str} {sp : Sp} {E : EX} {m : Str} {pos apos : Pos} {e o : Expr} {es : List Expr} {kws : List Keyword} {ta : TE} {t tk : TA} {gg : List Value → List Value → List Value} {gV : List V → List V → List V}
def tMtK (C : Addr) (m : Str) (n mm : Nat) (sp : Sp) (gV : List V → List V → List V) (E : EX) (ta : TE) (t tk : TA) : TE := fun σ H Q => ta σ H fun x H1 => ∃ a dx fs, x = .ref a ∧ H1 a = some (.ins C dx fs) ∧ fs.lookup m = none ∧
  t σ H1 fun vs H2 => tk σ H2 fun zs H3 => vs.length + 1 = n ∧ zs.length = mm ∧ sp (gV (V.ref a :: vs) zs) H3 Q (E σ)
theorem pe_mtK {pl : Sem Bool} (he : PE X o ta) (c : Cls X.K C) (hm : Meth X.K C m f) (F : FnOk X.prog X.w X.K X.mg X.base CX k f fd ps sp) (hr : Room k X.A) (hb : KBn X.K fd ps n ks gg gV) (hx : ∀ σ, PassesAt CX X σ (E σ)) (ha : PA X (e :: es) t) (hkw : PK X kws tk)
    (hall : (backToKw pos (keywordEach kws X.env)).all (·.1.isSome) = true := by rfl) (hks : (backToKw pos (keywordEach kws X.env)).filterMap (·.1) = ks := by rfl)
    (hst : starEach (e :: es) X.env = (false, eval e X.env) :: starEach es X.env := by rfl) (hpl : ((backTo pos (starEach (e :: es) X.env)).any (·.1) || (backToKw pos (keywordEach kws X.env)).any (·.1.isNone)) = false := by rfl)
    (ht : eval (.Call (.Attribute o m apos) (e :: es) kws pos) X.env = (do
      let ov ← eval o X.env
      standAt apos.atName
      let (f, first) ← holding [ov] (getMethod ov m pl)
      callWith pos f first (backTo pos (starEach (e :: es) X.env)) (backToKw pos (keywordEach kws X.env))) := by rfl) :
    PE X (.Call (.Attribute o m apos) (e :: es) kws pos) (tMtK C m n ks.length sp gV E ta t tk) := by
  refine ⟨fun pins s σ H Q I h => PySem.W.methodCall_KW (pl := pl) (thn (he.run pins s σ H _ I h) fun u s1 hh => ?_) ht⟩
  obtain ⟨x, H1, J, rx, a, dx, fs, rfl, ea, l, q⟩ := hh
  obtain rfl : u = Value.ref a := rx
  refine getmeth_ok J ea c hm l (PySem.W.callWith_KW (first := [.ref a]) (h₀ := X.base) I.ok.mod.kin hm.kp hall (thn (ha.run pos pins s1 σ H1 _ J q) fun us s2 ⟨vs, H2, I2, r, q2⟩ => thn (hkw.run pos pins s2 σ H2 _ I2 q2) fun ws s3 hh3 => ?_) hpl hst)
  obtain ⟨zs, H3, I3, rz, l1, l2, q3⟩ := hh3
  refine ⟨I3.kIn, ?_⟩
  rw [hks]
  have ra : Vals (V.ref a :: vs) (Value.ref a :: us) := .cons rfl r
  refine wpAny_call (codeAny_mono (F.run X.A X.stack s3 H3 ⟨.ref a :: us, ks.zip ws⟩ (gg (.ref a :: us) ws) (gV (.ref a :: vs) zs) Q (E σ) hr I3.env0 (hb.to s3 _ ws I3.kIn (by rw [List.length_cons, ← r.length]; exact l1) (rz.length.symm.trans l2)) (hb.rel ra rz) q3) fun q s' hq => ?_)
  match q, hq with
  | .error er, hq => exact hx σ pins H3 s3 er s' I3 hq
  | .ok (.ret u), hq => exact I3.after hq
  | .ok .next, hq => exact False.elim hq
  | .ok .brk, hq => exact False.elim hq
  | .ok .cont, hq => exact False.elim hq
end
/-- all keywords are written, no default is asked for -/
theorem kbF {K : PySem.W.Frag} {x qual : Str} {st : Stmt} {f : Addr} {fd : FuncData} {ps : List Str} (F : Fun K x qual st f fd) (n : Nat) (ks : List Str)
    (h : ∀ (kV doc pm : Value) (an : Option Addr) (cdv ct : Value) (us ws : List Value), us.length = n → ws.length = ks.length → bindArgs (PySem.W.fnOf x qual (defArgs st) (defBody st) (defScope st) .none kV doc pm an cdv ct) ⟨us, ks.zip ws⟩ = pure (ps.zip (us ++ ws))) :
    KBn K fd ps n ks (fun us ws => us ++ ws) (fun vs zs => vs ++ zs) := by
  obtain ⟨oc, od, kV, doc, pm, an, cdv, ct, osl, rfl, lk, hcd⟩ := F.ex
  exact ⟨fun s us ws X l1 l2 => BindsTo.of_looks fun M => PySem.W.Looks.of_pure (h kV doc pm an cdv ct us ws l1 l2), fun r1 r2 => r1.append r2⟩
theorem kbD {K : PySem.W.Frag} {x qual : Str} {params : Arguments} {body : List Stmt} {scope : Scope} {kws : List (Str × V)} {f : Addr} {fd : FuncData} {ps : List Str} (F : FunD K x qual params body scope [] kws f fd) (n : Nat) (ks : List Str)
    (h : ∀ (kV doc pm : Value) (an : Option Addr) (cdv ct : Value) (us ws : List Value), us.length = n → ws.length = ks.length → bindArgs (PySem.W.fnOf x qual params body scope .none kV doc pm an cdv ct) ⟨us, ks.zip ws⟩ = pure (ps.zip (us ++ ws))) :
    KBn K fd ps n ks (fun us ws => us ++ ws) (fun vs zs => vs ++ zs) := by
  obtain ⟨oc, od, dV, kV, doc, pm, an, cdv, ct, osl, rfl, lk, hcd, hD, hK⟩ := F.ex
  rcases hD with ⟨_, rfl⟩ | ⟨e, _⟩
  · exact ⟨fun s us ws X l1 l2 => BindsTo.of_looks fun M => PySem.W.Looks.of_pure (h kV doc pm an cdv ct us ws l1 l2), fun r1 r2 => r1.append r2⟩
  · exact absurd rfl e
end Rz

namespace Rz
open PySem L2
/-! ### the text by places -/
def top (i : Nat) : Stmt := PySem.Challenge.pw_risensigns_k13_weights_fall.main.body.getD i (.Pass ⟨0, 0, 0, 0⟩)
abbrev prg : Program := PySem.Challenge.pw_risensigns_k13_weights_fall
abbrev s_check_text : Stmt := top 18
abbrev s_decoded : Stmt := top 16
abbrev s_check_height : Stmt := top 19
abbrev s_check_bound : Stmt := top 20
abbrev s_Row_init : Stmt := inClass (top 22) 0
abbrev s_Row_signs : Stmt := inClass (top 22) 1
abbrev s_Row_heights : Stmt := inClass (top 22) 2
abbrev s_Row_len : Stmt := inClass (top 22) 3
abbrev s_Row_iter : Stmt := inClass (top 22) 4
abbrev s_Row_abs : Stmt := inClass (top 22) 11
abbrev s_Rule_init : Stmt := inClass (top 27) 0
abbrev s_Rule_str : Stmt := inClass (top 27) 1
abbrev s__fits : Stmt := top 29
abbrev s_Book_init : Stmt := inClass (top 28) 0
abbrev s_Book_longest : Stmt := inClass (top 28) 3
abbrev s_Book_written : Stmt := inClass (top 28) 9
abbrev s__read_rule : Stmt := top 31
abbrev s_Book_read : Stmt := inClass (top 28) 1
abbrev s_Book_steps : Stmt := inClass (top 28) 11
abbrev s_Book_powers : Stmt := inClass (top 28) 18
abbrev s_Book_weight : Stmt := inClass (top 28) 13
abbrev s_Book_limit : Stmt := inClass (top 28) 14
abbrev s__law_pool : Stmt := top 33
abbrev s__law_pick : Stmt := top 34
abbrev s__law_alphabet : Stmt := top 35
abbrev s__law_word_of : Stmt := top 36
abbrev s__law_book_of : Stmt := top 37
abbrev s__law_is_int : Stmt := top 38
abbrev s__law_take : Stmt := top 39
abbrev s__law_lines_of : Stmt := top 40
abbrev s__law_as_row : Stmt := top 41
abbrev s__law_power : Stmt := top 42
abbrev s__law_due_of : Stmt := top 43
abbrev s__law_weighed : Stmt := top 44
abbrev s__law_limited : Stmt := top 45
abbrev s_law : Stmt := top 46
abbrev s_BadSign_init : Stmt := inClass (top 3) 0
abbrev s_BadHeight_init : Stmt := inClass (top 6) 0
abbrev s_BadLine_init : Stmt := inClass (top 8) 0
abbrev s_BadBound_init : Stmt := inClass (top 9) 0
abbrev N_check_text : List Str := ["text", "at", "sign"]
abbrev P_check_text : List Str := ["text"]
abbrev N_decoded : List Str := ["text"]
abbrev P_decoded : List Str := ["text"]
abbrev N_check_height : List Str := ["height", "greatest"]
abbrev P_check_height : List Str := ["height", "greatest"]
abbrev N_check_bound : List Str := ["most", "greatest"]
abbrev P_check_bound : List Str := ["most", "greatest"]
abbrev N_Row_init : List Str := ["self", "text", "heights", "signs", "height"]
abbrev P_Row_init : List Str := ["self", "text", "heights"]
abbrev N_Row_signs : List Str := ["self", "sign", "_"]
abbrev P_Row_signs : List Str := ["self"]
abbrev N_Row_heights : List Str := ["self", "_", "height"]
abbrev P_Row_heights : List Str := ["self"]
abbrev N_Row_len : List Str := ["self"]
abbrev P_Row_len : List Str := ["self"]
abbrev N_Row_iter : List Str := ["self"]
abbrev P_Row_iter : List Str := ["self"]
abbrev N_Row_abs : List Str := ["self"]
abbrev P_Row_abs : List Str := ["self"]
abbrev N_Rule_init : List Str := ["self", "left", "right"]
abbrev P_Rule_init : List Str := ["self", "left", "right"]
abbrev N_Rule_str : List Str := ["self"]
abbrev P_Rule_str : List Str := ["self"]
abbrev N__fits : List Str := ["rule", "signs", "at"]
abbrev P__fits : List Str := ["rule", "signs", "at"]
abbrev N_Book_init : List Str := ["self", "rules"]
abbrev P_Book_init : List Str := ["self", "rules"]
abbrev N_Book_longest : List Str := ["self", "rule"]
abbrev P_Book_longest : List Str := ["self"]
abbrev N_Book_written : List Str := ["self", "rule"]
abbrev P_Book_written : List Str := ["self"]
abbrev N__read_rule : List Str := ["line", "number", "sides", "why"]
abbrev P__read_rule : List Str := ["line", "number"]
abbrev N_Book_read : List Str := ["cls", "text", "written", "lines", "number", "line", "rules"]
abbrev P_Book_read : List Str := ["cls", "text"]
abbrev N_Book_steps : List Str := ["self", "row", "signs", "at", "number", "rule"]
abbrev P_Book_steps : List Str := ["self", "row"]
abbrev N_Book_powers : List Str := ["self", "base", "power"]
abbrev P_Book_powers : List Str := ["self"]
abbrev N_Book_weight : List Str := ["self", "row", "most", "top", "powers", "height"]
abbrev P_Book_weight : List Str := ["self", "row", "most"]
abbrev N_Book_limit : List Str := ["self", "many", "most"]
abbrev P_Book_limit : List Str := ["self", "many", "most"]
abbrev N__law_pool : List Str := ["_law_script", "_law_draws", "_law_seed", "_law_cell", "_law_rest", "_law_k", "_law_value"]
abbrev P__law_pool : List Str := ["_law_script"]
abbrev N__law_pick : List Str := ["_law_draws", "_law_many"]
abbrev P__law_pick : List Str := ["_law_draws", "_law_many"]
abbrev N__law_alphabet : List Str := ["_law_draws", "_law_many", "_law_letters", "_law_signs", "_law_k", "_law_letter", "_law_left"]
abbrev P__law_alphabet : List Str := ["_law_draws", "_law_many"]
abbrev N__law_word_of : List Str := ["_law_draws", "_law_signs", "_law_least", "_law_greatest", "_law_size", "_law_k"]
abbrev P__law_word_of : List Str := ["_law_draws", "_law_signs", "_law_least", "_law_greatest"]
abbrev N__law_book_of : List Str := ["_law_draws", "_law_signs", "_law_plans", "_law_kind", "_law_plan", "_law_k", "_law_part", "_law_many", "_law_rules", "_law_left"]
abbrev P__law_book_of : List Str := ["_law_draws", "_law_signs"]
abbrev N__law_is_int : List Str := ["_law_value"]
abbrev P__law_is_int : List Str := ["_law_value"]
abbrev N__law_take : List Str := ["_law_row", "_law_rule", "_law_at", "_law_left", "_law_part", "_law_sign", "_law_height", "_law_least"]
abbrev P__law_take : List Str := ["_law_row", "_law_rule", "_law_at"]
abbrev N__law_lines_of : List Str := ["_law_rules", "_law_left", "_law_right"]
abbrev P__law_lines_of : List Str := ["_law_rules"]
abbrev N__law_as_row : List Str := ["_law_pairs", "_law_pair"]
abbrev P__law_as_row : List Str := ["_law_pairs"]
abbrev N__law_power : List Str := ["_law_base", "_law_exponent", "_law_result", "_law_k"]
abbrev P__law_power : List Str := ["_law_base", "_law_exponent"]
abbrev N__law_due_of : List Str := ["_law_rules", "_law_pairs", "_law_bound", "_law_rule", "_law_longest", "_law_pair", "_law_top"]
abbrev P__law_due_of : List Str := ["_law_rules", "_law_pairs", "_law_bound"]
abbrev N__law_weighed : List Str := ["_law_book", "_law_row", "_law_bound", "e", "f"]
abbrev P__law_weighed : List Str := ["_law_book", "_law_row", "_law_bound"]
abbrev N__law_limited : List Str := ["_law_book", "_law_many", "_law_bound", "e"]
abbrev P__law_limited : List Str := ["_law_book", "_law_many", "_law_bound"]
abbrev N_law : List Str := ["_law_script", "_law_draws", "_law_signs", "_law_rules", "_law_bound", "_law_few", "_law_sign", "_law_pairs", "_law_many", "_law_book", "_law_row", "_law_told", "_law_due", "_law_full", "_law_number", "_law_at", "_law_after", "_law_pair", "_law_least", "_law_less"]
abbrev P_law : List Str := ["_law_script"]
/-! ### what stands behind the top -/
structure Txt (K : PySem.W.Frag) (mg : Str → Option Value) : Type where
  n_abs : mg "abs" = none
  n_bool : mg "bool" = none
  n_bytes : mg "bytes" = none
  n_classmethod : mg "classmethod" = none
  n_enumerate : mg "enumerate" = none
  n_int : mg "int" = none
  n_isinstance : mg "isinstance" = none
  n_iter : mg "iter" = none
  n_len : mg "len" = none
  n_list : mg "list" = none
  n_max : mg "max" = none
  n_min : mg "min" = none
  n_property : mg "property" = none
  n_range : mg "range" = none
  n_str : mg "str" = none
  n_sum : mg "sum" = none
  n_tuple : mg "tuple" = none
  n_zip : mg "zip" = none
  k_SIGNS : ∃ t, mg "SIGNS" = some (.str "abcdefghijklmnopqrstuvwxyz" t)
  k_GREATEST_HEIGHT : ∃ t, mg "GREATEST_HEIGHT" = some (.int 9 t)
  k_MOST_SIGNS : ∃ t, mg "MOST_SIGNS" = some (.int 4 t)
  k_MOST_RULES : ∃ t, mg "MOST_RULES" = some (.int 6 t)
  c_BadSign : Addr
  m_BadSign : mg "BadSign" = some (.ref c_BadSign)
  o_BadSign : OexC K c_BadSign
  x_BadSign : ExF K c_BadSign "at"
  f_BadSign_init : Addr
  fd_BadSign_init : FuncData
  i_BadSign : PySem.W.findIn K (.ref c_BadSign) "__init__" = some (some (.ref f_BadSign_init))
  t_BadSign : PySem.W.typeIn K (.ref f_BadSign_init) = some (.type "function")
  F_BadSign_init : ExInit prg K mg c_BadSign f_BadSign_init fd_BadSign_init "at" s_BadSign_init
  b_BadSign_init : Binds K fd_BadSign_init ["self", "at"] []
  em_BadSign_BadSign : PySem.W.exmOne K (.ref c_BadSign) (.ref c_BadSign) = some true
  -- em_BadSign_BadHeight below
  -- em_BadSign_BadLine below
  -- em_BadSign_BadBound below
  -- em_BadSign_Uneven below
  -- em_BadSign_BadRule below
  -- em_BadSign_BookFull below
  c_BadHeight : Addr
  m_BadHeight : mg "BadHeight" = some (.ref c_BadHeight)
  o_BadHeight : OexC K c_BadHeight
  x_BadHeight : ExF K c_BadHeight "height"
  f_BadHeight_init : Addr
  fd_BadHeight_init : FuncData
  i_BadHeight : PySem.W.findIn K (.ref c_BadHeight) "__init__" = some (some (.ref f_BadHeight_init))
  t_BadHeight : PySem.W.typeIn K (.ref f_BadHeight_init) = some (.type "function")
  F_BadHeight_init : ExInit prg K mg c_BadHeight f_BadHeight_init fd_BadHeight_init "height" s_BadHeight_init
  b_BadHeight_init : Binds K fd_BadHeight_init ["self", "height"] []
  em_BadHeight_BadSign : PySem.W.exmOne K (.ref c_BadHeight) (.ref c_BadSign) = some false
  em_BadHeight_BadHeight : PySem.W.exmOne K (.ref c_BadHeight) (.ref c_BadHeight) = some true
  -- em_BadHeight_BadLine below
  -- em_BadHeight_BadBound below
  -- em_BadHeight_Uneven below
  -- em_BadHeight_BadRule below
  -- em_BadHeight_BookFull below
  c_BadLine : Addr
  m_BadLine : mg "BadLine" = some (.ref c_BadLine)
  o_BadLine : OexC K c_BadLine
  x_BadLine : ExF K c_BadLine "line"
  f_BadLine_init : Addr
  fd_BadLine_init : FuncData
  i_BadLine : PySem.W.findIn K (.ref c_BadLine) "__init__" = some (some (.ref f_BadLine_init))
  t_BadLine : PySem.W.typeIn K (.ref f_BadLine_init) = some (.type "function")
  F_BadLine_init : ExInit prg K mg c_BadLine f_BadLine_init fd_BadLine_init "line" s_BadLine_init
  b_BadLine_init : Binds K fd_BadLine_init ["self", "line"] []
  em_BadLine_BadSign : PySem.W.exmOne K (.ref c_BadLine) (.ref c_BadSign) = some false
  em_BadLine_BadHeight : PySem.W.exmOne K (.ref c_BadLine) (.ref c_BadHeight) = some false
  em_BadLine_BadLine : PySem.W.exmOne K (.ref c_BadLine) (.ref c_BadLine) = some true
  -- em_BadLine_BadBound below
  -- em_BadLine_Uneven below
  -- em_BadLine_BadRule below
  -- em_BadLine_BookFull below
  c_BadBound : Addr
  m_BadBound : mg "BadBound" = some (.ref c_BadBound)
  o_BadBound : OexC K c_BadBound
  x_BadBound : ExF K c_BadBound "most"
  f_BadBound_init : Addr
  fd_BadBound_init : FuncData
  i_BadBound : PySem.W.findIn K (.ref c_BadBound) "__init__" = some (some (.ref f_BadBound_init))
  t_BadBound : PySem.W.typeIn K (.ref f_BadBound_init) = some (.type "function")
  F_BadBound_init : ExInit prg K mg c_BadBound f_BadBound_init fd_BadBound_init "most" s_BadBound_init
  b_BadBound_init : Binds K fd_BadBound_init ["self", "most"] []
  em_BadBound_BadSign : PySem.W.exmOne K (.ref c_BadBound) (.ref c_BadSign) = some false
  em_BadBound_BadHeight : PySem.W.exmOne K (.ref c_BadBound) (.ref c_BadHeight) = some false
  em_BadBound_BadLine : PySem.W.exmOne K (.ref c_BadBound) (.ref c_BadLine) = some false
  em_BadBound_BadBound : PySem.W.exmOne K (.ref c_BadBound) (.ref c_BadBound) = some true
  -- em_BadBound_Uneven below
  -- em_BadBound_BadRule below
  -- em_BadBound_BookFull below
  c_Uneven : Addr
  m_Uneven : mg "Uneven" = some (.ref c_Uneven)
  o_Uneven : PySem.W.excIn K c_Uneven [.type "ValueError", .type "Exception", .type "BaseException", .type "object"] "ValueError.__new__" = true
  kp_Uneven : PySem.W.keepIn K (.ref c_Uneven) = true
  r_Uneven : PySem.W.subIn K (.ref c_Uneven) (.type "BaseException") = some true
  t_Uneven : PySem.W.typeIn K (.ref c_Uneven) = some (.type "type")
  em_Uneven_BadSign : PySem.W.exmOne K (.ref c_Uneven) (.ref c_BadSign) = some false
  em_Uneven_BadHeight : PySem.W.exmOne K (.ref c_Uneven) (.ref c_BadHeight) = some false
  em_Uneven_BadLine : PySem.W.exmOne K (.ref c_Uneven) (.ref c_BadLine) = some false
  em_Uneven_BadBound : PySem.W.exmOne K (.ref c_Uneven) (.ref c_BadBound) = some false
  em_Uneven_Uneven : PySem.W.exmOne K (.ref c_Uneven) (.ref c_Uneven) = some true
  -- em_Uneven_BadRule below
  -- em_Uneven_BookFull below
  c_BadRule : Addr
  m_BadRule : mg "BadRule" = some (.ref c_BadRule)
  o_BadRule : PySem.W.excIn K c_BadRule [.type "ValueError", .type "Exception", .type "BaseException", .type "object"] "ValueError.__new__" = true
  kp_BadRule : PySem.W.keepIn K (.ref c_BadRule) = true
  r_BadRule : PySem.W.subIn K (.ref c_BadRule) (.type "BaseException") = some true
  t_BadRule : PySem.W.typeIn K (.ref c_BadRule) = some (.type "type")
  em_BadRule_BadSign : PySem.W.exmOne K (.ref c_BadRule) (.ref c_BadSign) = some false
  em_BadRule_BadHeight : PySem.W.exmOne K (.ref c_BadRule) (.ref c_BadHeight) = some false
  em_BadRule_BadLine : PySem.W.exmOne K (.ref c_BadRule) (.ref c_BadLine) = some false
  em_BadRule_BadBound : PySem.W.exmOne K (.ref c_BadRule) (.ref c_BadBound) = some false
  em_BadRule_Uneven : PySem.W.exmOne K (.ref c_BadRule) (.ref c_Uneven) = some false
  em_BadRule_BadRule : PySem.W.exmOne K (.ref c_BadRule) (.ref c_BadRule) = some true
  -- em_BadRule_BookFull below
  c_BookFull : Addr
  m_BookFull : mg "BookFull" = some (.ref c_BookFull)
  o_BookFull : PySem.W.excIn K c_BookFull [.type "ValueError", .type "Exception", .type "BaseException", .type "object"] "ValueError.__new__" = true
  kp_BookFull : PySem.W.keepIn K (.ref c_BookFull) = true
  r_BookFull : PySem.W.subIn K (.ref c_BookFull) (.type "BaseException") = some true
  t_BookFull : PySem.W.typeIn K (.ref c_BookFull) = some (.type "type")
  em_BookFull_BadSign : PySem.W.exmOne K (.ref c_BookFull) (.ref c_BadSign) = some false
  em_BookFull_BadHeight : PySem.W.exmOne K (.ref c_BookFull) (.ref c_BadHeight) = some false
  em_BookFull_BadLine : PySem.W.exmOne K (.ref c_BookFull) (.ref c_BadLine) = some false
  em_BookFull_BadBound : PySem.W.exmOne K (.ref c_BookFull) (.ref c_BadBound) = some false
  em_BookFull_Uneven : PySem.W.exmOne K (.ref c_BookFull) (.ref c_Uneven) = some false
  em_BookFull_BadRule : PySem.W.exmOne K (.ref c_BookFull) (.ref c_BadRule) = some false
  em_BookFull_BookFull : PySem.W.exmOne K (.ref c_BookFull) (.ref c_BookFull) = some true
  em_BadSign_BadHeight : PySem.W.exmOne K (.ref c_BadSign) (.ref c_BadHeight) = some false
  em_BadSign_BadLine : PySem.W.exmOne K (.ref c_BadSign) (.ref c_BadLine) = some false
  em_BadSign_BadBound : PySem.W.exmOne K (.ref c_BadSign) (.ref c_BadBound) = some false
  em_BadSign_Uneven : PySem.W.exmOne K (.ref c_BadSign) (.ref c_Uneven) = some false
  em_BadSign_BadRule : PySem.W.exmOne K (.ref c_BadSign) (.ref c_BadRule) = some false
  em_BadSign_BookFull : PySem.W.exmOne K (.ref c_BadSign) (.ref c_BookFull) = some false
  em_BadHeight_BadLine : PySem.W.exmOne K (.ref c_BadHeight) (.ref c_BadLine) = some false
  em_BadHeight_BadBound : PySem.W.exmOne K (.ref c_BadHeight) (.ref c_BadBound) = some false
  em_BadHeight_Uneven : PySem.W.exmOne K (.ref c_BadHeight) (.ref c_Uneven) = some false
  em_BadHeight_BadRule : PySem.W.exmOne K (.ref c_BadHeight) (.ref c_BadRule) = some false
  em_BadHeight_BookFull : PySem.W.exmOne K (.ref c_BadHeight) (.ref c_BookFull) = some false
  em_BadLine_BadBound : PySem.W.exmOne K (.ref c_BadLine) (.ref c_BadBound) = some false
  em_BadLine_Uneven : PySem.W.exmOne K (.ref c_BadLine) (.ref c_Uneven) = some false
  em_BadLine_BadRule : PySem.W.exmOne K (.ref c_BadLine) (.ref c_BadRule) = some false
  em_BadLine_BookFull : PySem.W.exmOne K (.ref c_BadLine) (.ref c_BookFull) = some false
  em_BadBound_Uneven : PySem.W.exmOne K (.ref c_BadBound) (.ref c_Uneven) = some false
  em_BadBound_BadRule : PySem.W.exmOne K (.ref c_BadBound) (.ref c_BadRule) = some false
  em_BadBound_BookFull : PySem.W.exmOne K (.ref c_BadBound) (.ref c_BookFull) = some false
  em_Uneven_BadRule : PySem.W.exmOne K (.ref c_Uneven) (.ref c_BadRule) = some false
  em_Uneven_BookFull : PySem.W.exmOne K (.ref c_Uneven) (.ref c_BookFull) = some false
  em_BadRule_BookFull : PySem.W.exmOne K (.ref c_BadRule) (.ref c_BookFull) = some false
  c_Row : Addr
  m_Row : mg "Row" = some (.ref c_Row)
  cl_Row : Cls K c_Row
  mk_Row : PySem.W.makesIn K c_Row = true
  kp_Row : PySem.W.keepIn K (.ref c_Row) = true
  is_Row : C8.InsC K c_Row
  sf_Row : PySem.W.selfFirst K c_Row = true
  nsq_Row : PySem.W.noSeq K c_Row = true
  na_Row__pairs : NoAttr K c_Row "_pairs"
  c_Rule : Addr
  m_Rule : mg "Rule" = some (.ref c_Rule)
  cl_Rule : Cls K c_Rule
  mk_Rule : PySem.W.makesIn K c_Rule = true
  kp_Rule : PySem.W.keepIn K (.ref c_Rule) = true
  is_Rule : C8.InsC K c_Rule
  sf_Rule : PySem.W.selfFirst K c_Rule = true
  na_Rule_left : NoAttr K c_Rule "left"
  na_Rule_right : NoAttr K c_Rule "right"
  c_Book : Addr
  m_Book : mg "Book" = some (.ref c_Book)
  cl_Book : Cls K c_Book
  mk_Book : PySem.W.makesIn K c_Book = true
  kp_Book : PySem.W.keepIn K (.ref c_Book) = true
  is_Book : C8.InsC K c_Book
  sf_Book : PySem.W.selfFirst K c_Book = true
  na_Book__rules : NoAttr K c_Book "_rules"
  f_check_text : Addr
  fd_check_text : FuncData
  F_check_text : Fun K "check_text" "check_text" s_check_text f_check_text fd_check_text
  b_check_text : Binds K fd_check_text P_check_text []
  m_check_text : mg "check_text" = some (.ref f_check_text)
  f_decoded : Addr
  fd_decoded : FuncData
  F_decoded : Fun K "decoded" "decoded" s_decoded f_decoded fd_decoded
  b_decoded : Binds K fd_decoded P_decoded []
  m_decoded : mg "decoded" = some (.ref f_decoded)
  f_check_height : Addr
  fd_check_height : FuncData
  F_check_height : Fun K "check_height" "check_height" s_check_height f_check_height fd_check_height
  b_check_height : Binds K fd_check_height P_check_height []
  m_check_height : mg "check_height" = some (.ref f_check_height)
  f_check_bound : Addr
  fd_check_bound : FuncData
  F_check_bound : Fun K "check_bound" "check_bound" s_check_bound f_check_bound fd_check_bound
  b_check_bound : Binds K fd_check_bound P_check_bound []
  m_check_bound : mg "check_bound" = some (.ref f_check_bound)
  f_Row_init : Addr
  fd_Row_init : FuncData
  D_Row_init : FunD K "__init__" "Row.__init__" (defArgs s_Row_init) (defBody s_Row_init) (defScope s_Row_init) [.str "", .non] [] f_Row_init fd_Row_init
  kp_Row_init : PySem.W.keepIn K (.ref f_Row_init) = true
  M_Row_init : Meth K c_Row "__init__" f_Row_init
  f_Row_signs : Addr
  fd_Row_signs : FuncData
  F_Row_signs : Fun K "signs" "Row.signs" s_Row_signs f_Row_signs fd_Row_signs
  b_Row_signs : Binds K fd_Row_signs P_Row_signs []
  p_Row_signs : Addr
  M_Row_signs : PropOf K c_Row "signs" p_Row_signs f_Row_signs
  f_Row_heights : Addr
  fd_Row_heights : FuncData
  F_Row_heights : Fun K "heights" "Row.heights" s_Row_heights f_Row_heights fd_Row_heights
  b_Row_heights : Binds K fd_Row_heights P_Row_heights []
  p_Row_heights : Addr
  M_Row_heights : PropOf K c_Row "heights" p_Row_heights f_Row_heights
  f_Row_len : Addr
  fd_Row_len : FuncData
  F_Row_len : Fun K "__len__" "Row.__len__" s_Row_len f_Row_len fd_Row_len
  b_Row_len : Binds K fd_Row_len P_Row_len []
  M_Row_len : Meth K c_Row "__len__" f_Row_len
  f_Row_iter : Addr
  fd_Row_iter : FuncData
  F_Row_iter : Fun K "__iter__" "Row.__iter__" s_Row_iter f_Row_iter fd_Row_iter
  b_Row_iter : Binds K fd_Row_iter P_Row_iter []
  M_Row_iter : Meth K c_Row "__iter__" f_Row_iter
  f_Row_abs : Addr
  fd_Row_abs : FuncData
  F_Row_abs : Fun K "__abs__" "Row.__abs__" s_Row_abs f_Row_abs fd_Row_abs
  b_Row_abs : Binds K fd_Row_abs P_Row_abs []
  M_Row_abs : Meth K c_Row "__abs__" f_Row_abs
  f_Rule_init : Addr
  fd_Rule_init : FuncData
  D_Rule_init : FunD K "__init__" "Rule.__init__" (defArgs s_Rule_init) (defBody s_Rule_init) (defScope s_Rule_init) [.str ""] [] f_Rule_init fd_Rule_init
  kp_Rule_init : PySem.W.keepIn K (.ref f_Rule_init) = true
  M_Rule_init : Meth K c_Rule "__init__" f_Rule_init
  f_Rule_str : Addr
  fd_Rule_str : FuncData
  F_Rule_str : Fun K "__str__" "Rule.__str__" s_Rule_str f_Rule_str fd_Rule_str
  b_Rule_str : Binds K fd_Rule_str P_Rule_str []
  M_Rule_str : Meth K c_Rule "__str__" f_Rule_str
  f__fits : Addr
  fd__fits : FuncData
  F__fits : Fun K "_fits" "_fits" s__fits f__fits fd__fits
  b__fits : Binds K fd__fits P__fits []
  m__fits : mg "_fits" = some (.ref f__fits)
  f_Book_init : Addr
  fd_Book_init : FuncData
  F_Book_init : Fun K "__init__" "Book.__init__" s_Book_init f_Book_init fd_Book_init
  M_Book_init : Meth K c_Book "__init__" f_Book_init
  f_Book_longest : Addr
  fd_Book_longest : FuncData
  F_Book_longest : Fun K "longest" "Book.longest" s_Book_longest f_Book_longest fd_Book_longest
  b_Book_longest : Binds K fd_Book_longest P_Book_longest []
  p_Book_longest : Addr
  M_Book_longest : PropOf K c_Book "longest" p_Book_longest f_Book_longest
  f_Book_written : Addr
  fd_Book_written : FuncData
  F_Book_written : Fun K "written" "Book.written" s_Book_written f_Book_written fd_Book_written
  b_Book_written : Binds K fd_Book_written P_Book_written []
  M_Book_written : Meth K c_Book "written" f_Book_written
  f__read_rule : Addr
  fd__read_rule : FuncData
  F__read_rule : Fun K "_read_rule" "_read_rule" s__read_rule f__read_rule fd__read_rule
  b__read_rule : Binds K fd__read_rule P__read_rule []
  m__read_rule : mg "_read_rule" = some (.ref f__read_rule)
  f_Book_read : Addr
  fd_Book_read : FuncData
  F_Book_read : Fun K "read" "Book.read" s_Book_read f_Book_read fd_Book_read
  b_Book_read : Binds K fd_Book_read P_Book_read []
  p_Book_read : Addr
  cr_Book_read : ClX.CRead K c_Book (.type "type")
  M_Book_read : ClX.CMet K c_Book (.type "type") "read" p_Book_read f_Book_read
  f_Book_steps : Addr
  fd_Book_steps : FuncData
  F_Book_steps : Fun K "steps" "Book.steps" s_Book_steps f_Book_steps fd_Book_steps
  b_Book_steps : Binds K fd_Book_steps P_Book_steps []
  M_Book_steps : Meth K c_Book "steps" f_Book_steps
  f_Book_powers : Addr
  fd_Book_powers : FuncData
  F_Book_powers : Fun K "_powers" "Book._powers" s_Book_powers f_Book_powers fd_Book_powers
  b_Book_powers : Binds K fd_Book_powers P_Book_powers []
  M_Book_powers : Meth K c_Book "_powers" f_Book_powers
  f_Book_weight : Addr
  fd_Book_weight : FuncData
  F_Book_weight : Fun K "weight" "Book.weight" s_Book_weight f_Book_weight fd_Book_weight
  M_Book_weight : Meth K c_Book "weight" f_Book_weight
  f_Book_limit : Addr
  fd_Book_limit : FuncData
  F_Book_limit : Fun K "limit" "Book.limit" s_Book_limit f_Book_limit fd_Book_limit
  M_Book_limit : Meth K c_Book "limit" f_Book_limit
  f__law_pool : Addr
  fd__law_pool : FuncData
  F__law_pool : Fun K "_law_pool" "_law_pool" s__law_pool f__law_pool fd__law_pool
  b__law_pool : Binds K fd__law_pool P__law_pool []
  m__law_pool : mg "_law_pool" = some (.ref f__law_pool)
  f__law_pick : Addr
  fd__law_pick : FuncData
  F__law_pick : Fun K "_law_pick" "_law_pick" s__law_pick f__law_pick fd__law_pick
  b__law_pick : Binds K fd__law_pick P__law_pick []
  m__law_pick : mg "_law_pick" = some (.ref f__law_pick)
  f__law_alphabet : Addr
  fd__law_alphabet : FuncData
  F__law_alphabet : Fun K "_law_alphabet" "_law_alphabet" s__law_alphabet f__law_alphabet fd__law_alphabet
  b__law_alphabet : Binds K fd__law_alphabet P__law_alphabet []
  m__law_alphabet : mg "_law_alphabet" = some (.ref f__law_alphabet)
  f__law_word_of : Addr
  fd__law_word_of : FuncData
  F__law_word_of : Fun K "_law_word_of" "_law_word_of" s__law_word_of f__law_word_of fd__law_word_of
  b__law_word_of : Binds K fd__law_word_of P__law_word_of []
  m__law_word_of : mg "_law_word_of" = some (.ref f__law_word_of)
  f__law_book_of : Addr
  fd__law_book_of : FuncData
  F__law_book_of : Fun K "_law_book_of" "_law_book_of" s__law_book_of f__law_book_of fd__law_book_of
  b__law_book_of : Binds K fd__law_book_of P__law_book_of []
  m__law_book_of : mg "_law_book_of" = some (.ref f__law_book_of)
  f__law_is_int : Addr
  fd__law_is_int : FuncData
  F__law_is_int : Fun K "_law_is_int" "_law_is_int" s__law_is_int f__law_is_int fd__law_is_int
  b__law_is_int : Binds K fd__law_is_int P__law_is_int []
  m__law_is_int : mg "_law_is_int" = some (.ref f__law_is_int)
  f__law_take : Addr
  fd__law_take : FuncData
  F__law_take : Fun K "_law_take" "_law_take" s__law_take f__law_take fd__law_take
  b__law_take : Binds K fd__law_take P__law_take []
  m__law_take : mg "_law_take" = some (.ref f__law_take)
  f__law_lines_of : Addr
  fd__law_lines_of : FuncData
  F__law_lines_of : Fun K "_law_lines_of" "_law_lines_of" s__law_lines_of f__law_lines_of fd__law_lines_of
  b__law_lines_of : Binds K fd__law_lines_of P__law_lines_of []
  m__law_lines_of : mg "_law_lines_of" = some (.ref f__law_lines_of)
  f__law_as_row : Addr
  fd__law_as_row : FuncData
  F__law_as_row : Fun K "_law_as_row" "_law_as_row" s__law_as_row f__law_as_row fd__law_as_row
  b__law_as_row : Binds K fd__law_as_row P__law_as_row []
  m__law_as_row : mg "_law_as_row" = some (.ref f__law_as_row)
  f__law_power : Addr
  fd__law_power : FuncData
  F__law_power : Fun K "_law_power" "_law_power" s__law_power f__law_power fd__law_power
  b__law_power : Binds K fd__law_power P__law_power []
  m__law_power : mg "_law_power" = some (.ref f__law_power)
  f__law_due_of : Addr
  fd__law_due_of : FuncData
  F__law_due_of : Fun K "_law_due_of" "_law_due_of" s__law_due_of f__law_due_of fd__law_due_of
  b__law_due_of : Binds K fd__law_due_of P__law_due_of []
  m__law_due_of : mg "_law_due_of" = some (.ref f__law_due_of)
  f__law_weighed : Addr
  fd__law_weighed : FuncData
  F__law_weighed : Fun K "_law_weighed" "_law_weighed" s__law_weighed f__law_weighed fd__law_weighed
  b__law_weighed : Binds K fd__law_weighed P__law_weighed []
  m__law_weighed : mg "_law_weighed" = some (.ref f__law_weighed)
  f__law_limited : Addr
  fd__law_limited : FuncData
  F__law_limited : Fun K "_law_limited" "_law_limited" s__law_limited f__law_limited fd__law_limited
  b__law_limited : Binds K fd__law_limited P__law_limited []
  m__law_limited : mg "_law_limited" = some (.ref f__law_limited)
  f_law : Addr
  fd_law : FuncData
  F_law : Fun K "law" "law" s_law f_law fd_law
  b_law : Binds K fd_law P_law []
  m_law : mg "law" = some (.ref f_law)
theorem bd_Row_init_1 {K : PySem.W.Frag} {mg : Str → Option Value} (T : Txt K mg) : ∃ ds, Vals (([.str "", .non] : List V).drop 0) ds ∧ Binds K T.fd_Row_init P_Row_init ds :=
  T.D_Row_init.binds1 (ps := P_Row_init) 1 0 (by simp) rfl fun _ _ _ _ _ _ _ us its hu hi => match us, its, hu, hi with | [_], [_, _], _, _ => ⟨_, rfl, rfl⟩
theorem bd_Row_init_2 {K : PySem.W.Frag} {mg : Str → Option Value} (T : Txt K mg) : ∃ ds, Vals (([.str "", .non] : List V).drop 1) ds ∧ Binds K T.fd_Row_init P_Row_init ds :=
  T.D_Row_init.binds1 (ps := P_Row_init) 2 1 (by simp) rfl fun _ _ _ _ _ _ _ us its hu hi => match us, its, hu, hi with | [_, _], [_, _], _, _ => ⟨_, rfl, rfl⟩
theorem bd_Row_init_3 {K : PySem.W.Frag} {mg : Str → Option Value} (T : Txt K mg) : ∃ ds, Vals (([.str "", .non] : List V).drop 2) ds ∧ Binds K T.fd_Row_init P_Row_init ds :=
  T.D_Row_init.binds1 (ps := P_Row_init) 3 2 (by simp) rfl fun _ _ _ _ _ _ _ us its hu hi => match us, its, hu, hi with | [_, _, _], [_, _], _, _ => ⟨_, rfl, rfl⟩
theorem bd_Rule_init_2 {K : PySem.W.Frag} {mg : Str → Option Value} (T : Txt K mg) : ∃ ds, Vals (([.str ""] : List V).drop 0) ds ∧ Binds K T.fd_Rule_init P_Rule_init ds :=
  T.D_Rule_init.binds1 (ps := P_Rule_init) 2 0 (by simp) rfl fun _ _ _ _ _ _ _ us its hu hi => match us, its, hu, hi with | [_, _], [_], _, _ => ⟨_, rfl, rfl⟩
theorem bd_Rule_init_3 {K : PySem.W.Frag} {mg : Str → Option Value} (T : Txt K mg) : ∃ ds, Vals (([.str ""] : List V).drop 1) ds ∧ Binds K T.fd_Rule_init P_Rule_init ds :=
  T.D_Rule_init.binds1 (ps := P_Rule_init) 3 1 (by simp) rfl fun _ _ _ _ _ _ _ us its hu hi => match us, its, hu, hi with | [_, _, _], [_], _, _ => ⟨_, rfl, rfl⟩
theorem ok_BadSign_init {w : World} {K : PySem.W.Frag} {mg : Str → Option Value} {base : Heap} (T : Txt K mg) : FnOk prg w K mg base (L2.CX prg w) 1 T.f_BadSign_init T.fd_BadSign_init ["self", "at"] (spExI T.c_BadSign "at") :=
  exinit_ok T.o_BadSign T.F_BadSign_init rfl rfl rfl rfl rfl rfl rfl rfl rfl rfl (by decide +kernel) (by decide +kernel) (by decide +kernel) (by decide) (by decide) (msg_ok2 rfl (by decide) (by decide) (by decide +kernel)) (fun _ _ _ _ => rfl) (fun _ _ _ _ => rfl)
theorem ok_BadHeight_init {w : World} {K : PySem.W.Frag} {mg : Str → Option Value} {base : Heap} (T : Txt K mg) : FnOk prg w K mg base (L2.CX prg w) 1 T.f_BadHeight_init T.fd_BadHeight_init ["self", "height"] (spExI T.c_BadHeight "height") :=
  exinit_ok T.o_BadHeight T.F_BadHeight_init rfl rfl rfl rfl rfl rfl rfl rfl rfl rfl (by decide +kernel) (by decide +kernel) (by decide +kernel) (by decide) (by decide) (msg_ok3 rfl (by decide) (by decide) (by decide +kernel) (by decide +kernel)) (fun _ _ _ _ => rfl) (fun _ _ _ _ => rfl)
theorem ok_BadLine_init {w : World} {K : PySem.W.Frag} {mg : Str → Option Value} {base : Heap} (T : Txt K mg) : FnOk prg w K mg base (L2.CX prg w) 1 T.f_BadLine_init T.fd_BadLine_init ["self", "line"] (spExI T.c_BadLine "line") :=
  exinit_ok T.o_BadLine T.F_BadLine_init rfl rfl rfl rfl rfl rfl rfl rfl rfl rfl (by decide +kernel) (by decide +kernel) (by decide +kernel) (by decide) (by decide) (msg_ok3 rfl (by decide) (by decide) (by decide +kernel) (by decide +kernel)) (fun _ _ _ _ => rfl) (fun _ _ _ _ => rfl)
theorem ok_BadBound_init {w : World} {K : PySem.W.Frag} {mg : Str → Option Value} {base : Heap} (T : Txt K mg) : FnOk prg w K mg base (L2.CX prg w) 1 T.f_BadBound_init T.fd_BadBound_init ["self", "most"] (spExI T.c_BadBound "most") :=
  exinit_ok T.o_BadBound T.F_BadBound_init rfl rfl rfl rfl rfl rfl rfl rfl rfl rfl (by decide +kernel) (by decide +kernel) (by decide +kernel) (by decide) (by decide) (msg_ok3 rfl (by decide) (by decide) (by decide +kernel) (by decide +kernel)) (fun _ _ _ _ => rfl) (fun _ _ _ _ => rfl)

end Rz
namespace Rz
open PySem PySem.Spec PyProof.Rows L2
/-- nothing for a text; else BadSign with the first place -/
def sp_check_text (cB : Addr) : Sp := fun vs H Q E => ∃ z : Str, vs = [.str z] ∧ z.length ≤ 1000000 ∧ (fo z = none → ∀ H', Same H H' → Q .non H') ∧
  (∀ i, fo z = some i → ∀ H' d, Same H H' → H d = none → H' d = some (.xd [("at", .int (i : Nat))]) → E (.ref cB) (some d) H')
section
variable {w : World} {K : PySem.W.Frag} {mg : Str → Option Value} {base : Heap}
theorem sc_check_text : FnScope N_check_text P_check_text (defScope s_check_text) := ⟨rfl, rfl, rfl, by decide +kernel, rfl, by decide +kernel, by decide +kernel⟩
theorem ok_check_text (T : Txt K mg) : FnOk prg w K mg base (L2.CX prg w) 3 T.f_check_text T.fd_check_text P_check_text (sp_check_text T.c_BadSign) := by
  refine T.F_check_text.okX sc_check_text (fun vs H Q E h => ?_) (fun cdv A outer s H vs Q E hr h => ?_)
  · obtain ⟨z, rfl, _⟩ := h
    rfl
  obtain ⟨z, rfl, hz, kg, kb⟩ := h
  have nd := sc_check_text.nd
  obtain ⟨tS, k_SIGNS⟩ := T.k_SIGNS
  have tk : Takes (cxOf (L2.CX prg w) prg w K mg base N_check_text "check_text" (defScope s_check_text) T.f_check_text cdv A outer s H E) (fun cls d _ H' => E cls d H') := takes_of rfl rfl rfl rfl
  refine ⟨_, (pss_one (ps_for (passes_of rfl) rfl (pi_enumS (by rfl) T.n_enumerate (pa_cons (pv 0) pa_nil)) (pg_tup rfl (pgs_cons (pg_name (i := 1) nd rfl (Or.inl rfl)) (pgs_cons (pg_name (i := 2) nd rfl (Or.inl rfl)) pgs_nil)))
      (pss_one (ps_if (pt_cmpR op_notIn_sign (pv 2) (pe_glob (v := .str abc) (by rfl) k_SIGNS ⟨_, rfl⟩) rfl) (pss_one (ps_raise rfl tk (pmk_oex T.o_BadSign T.i_BadSign T.t_BadSign (ok_BadSign_init T) (hr.mono (by decide)) T.b_BadSign_init .nil passN (by rfl) T.m_BadSign (pa_cons (pv 1) pa_nil)))) pss_nil)))), ?_⟩
  refine ⟨_, rfl, z, rfl, for_it walk_enumS (fun i σ H' => ∃ v1 v2 : Option V, σ = [some (.str z), v1, v2] ∧ Same H H' ∧ ∀ (j c : Nat), j < i → z.cps.toList[j]? = some c → oddC c = false)
    ⟨_, _, rfl, Same.refl H, fun j c hj => absurd hj (Nat.not_lt_zero j)⟩ (fun _ _ _ _ _ => True.intro) ?_ ?_⟩
  · rintro i x σ H1 H2 hi ⟨v1, v2, rfl, R, hb⟩ ⟨Tp, c, rfl, hT, rfl, hc⟩
    have R2 : Same H (upd H1 Tp (.tup [.int (i : Nat), .str ⟨#[c]⟩])) := Rz.Same.new R hT
    refine ⟨Tp, _, rfl, SqT.of upd_same, rfl, _, _, rfl, _, _, rfl, rfl, ?_⟩
    refine ⟨_, rfl, c, abc, rfl, rfl, _, rfl, ?_⟩
    refine ite2 (fun ho => ?_) (fun ho => ?_)
    · have hfo := fo_some hc ho hb
      have hl := fo_lt hfo
      exact ⟨_, rfl, by show 1 ≤ 1000; decide, raise_fld (log_nat (by omega)) fun H2 d S2 hd e => kb i hfo H2 d (R2.trans S2) (R2.free hd) e⟩
    · refine ⟨_, _, rfl, R2, fun j c2 hj h2 => ?_⟩
      by_cases e : j < i
      · exact hb j c2 e h2
      · have e3 : j = i := by omega
        subst e3
        rw [hc] at h2
        cases h2
        simpa [oddC] using ho
  · rintro σ H1 ⟨v1, v2, rfl, R, hb⟩
    exact kg (fo_none fun j c hj => hb j c (by
      have := (List.getElem?_eq_some_iff.mp hj).1
      simpa using this) hj) H1 R
end
end Rz

namespace Rz
open PySem PySem.Spec PyProof.Rows L2
def sp_decoded : Sp := fun vs H Q _ => ∃ z : Str, vs = [.str z] ∧ Q (.str z) H
section
variable {w : World} {K : PySem.W.Frag} {mg : Str → Option Value} {base : Heap}
theorem sc_decoded : FnScope N_decoded P_decoded (defScope s_decoded) := ⟨rfl, rfl, rfl, by decide +kernel, rfl, by decide +kernel, by decide +kernel⟩
theorem ok_decoded (T : Txt K mg) : FnOk prg w K mg base (L2.CX prg w) 1 T.f_decoded T.fd_decoded P_decoded sp_decoded := by
  refine Rz.Fun.okN T.F_decoded sc_decoded (fun vs H Q E h => ?_) (fun cdv A outer s H vs Q E hr h => ?_)
  · obtain ⟨z, rfl, _⟩ := h
    rfl
  obtain ⟨z, rfl, k⟩ := h
  refine ⟨_, (pss_cons (ps_if (pt_val (pe_callB call_isi (by rfl) T.n_isinstance (by decide +kernel) (pa_cons (pv 0) (pa_cons (pe_bltn (v := .ty "bytes") (by rfl) T.n_bytes (by decide +kernel) rfl) pa_nil)))) pss_never pss_nil)
    (pss_one (ps_ret (pv 0)))), ?_⟩
  refine ⟨_, rfl, _, _, .type "str", .type "bytes", false, rfl, .ty _, .base (.str z), kit_ty (by decide +kernel), false, rfl, ?_⟩
  exact iteF ⟨_, rfl, k⟩
end
end Rz

namespace Rz
open PySem PySem.Spec PyProof.Rows L2
/-- nothing for a height from 0 to g; else BadHeight with it -/
def sp_check_height (cH : Addr) : Sp := fun vs H Q E => ∃ h g : Int, vs = [.int h, .int g] ∧ h.natAbs < 2 ^ 64 ∧ (0 ≤ h ∧ h ≤ g → Q .non H) ∧
  (¬ (0 ≤ h ∧ h ≤ g) → ∀ H' d, Same H H' → H d = none → H' d = some (.xd [("height", .int h)]) → E (.ref cH) (some d) H')
section
variable {w : World} {K : PySem.W.Frag} {mg : Str → Option Value} {base : Heap}
theorem sc_check_height : FnScope N_check_height P_check_height (defScope s_check_height) := ⟨rfl, rfl, rfl, by decide +kernel, rfl, by decide +kernel, by decide +kernel⟩
theorem ok_check_height (T : Txt K mg) : FnOk prg w K mg base (L2.CX prg w) 3 T.f_check_height T.fd_check_height P_check_height (sp_check_height T.c_BadHeight) := by
  refine T.F_check_height.okX sc_check_height (fun vs H Q E h => ?_) (fun cdv A outer s H vs Q E hr h => ?_)
  · obtain ⟨h, g, rfl, _⟩ := h
    rfl
  obtain ⟨h, g, rfl, hs, kg, kb⟩ := h
  have tk : Takes (cxOf (L2.CX prg w) prg w K mg base N_check_height "check_height" (defScope s_check_height) T.f_check_height cdv A outer s H E) (fun cls d _ H' => E cls d H') := takes_of rfl rfl rfl rfl
  refine ⟨_, (pss_one (ps_if (pt_not (pt_chain op_le op_le pe_int (pv 0) (pv 1))) (pss_one (ps_raise rfl tk (pmk_oex T.o_BadHeight T.i_BadHeight T.t_BadHeight (ok_BadHeight_init T) (hr.mono (by decide)) T.b_BadHeight_init .nil passN (by rfl) T.m_BadHeight (pa_cons (pv 0) pa_nil)))) pss_nil)), ?_⟩
  have bad : ¬ (0 ≤ h ∧ h ≤ g) → _ := fun hb => raise_fld (C := T.c_BadHeight) (fld := "height") (n := h) (H1 := H) (Q := E) (log_small hs (by decide)) fun H2 d S2 hd e => kb hb H2 d S2 hd e
  refine ⟨_, rfl, _, _, rfl, rfl, decide (0 ≤ h), rfl, ?_⟩
  by_cases h0 : 0 ≤ h
  · rw [decide_eq_true h0]
    refine iteT ⟨_, rfl, _, _, rfl, rfl, decide (h ≤ g), rfl, ?_⟩
    by_cases h1 : h ≤ g
    · rw [decide_eq_true h1]
      exact iteF (kg ⟨h0, h1⟩)
    · rw [decide_eq_false h1]
      exact iteT ⟨_, rfl, by show 1 ≤ 1000; decide, bad fun z => h1 z.2⟩
  · rw [decide_eq_false h0]
    refine iteF ⟨false, rfl, ?_⟩
    exact iteT ⟨_, rfl, by show 1 ≤ 1000; decide, bad fun z => h0 z.1⟩
end
end Rz

namespace Rz
open PySem PySem.Spec PyProof.Rows L2
/-- nothing for a bound from 0 to g; else BadBound with it -/
def sp_check_bound (cH : Addr) : Sp := fun vs H Q E => ∃ h g : Int, vs = [.int h, .int g] ∧ h.natAbs < 2 ^ 64 ∧ (0 ≤ h ∧ h ≤ g → Q .non H) ∧
  (¬ (0 ≤ h ∧ h ≤ g) → ∀ H' d, Same H H' → H d = none → H' d = some (.xd [("most", .int h)]) → E (.ref cH) (some d) H')
section
variable {w : World} {K : PySem.W.Frag} {mg : Str → Option Value} {base : Heap}
theorem sc_check_bound : FnScope N_check_bound P_check_bound (defScope s_check_bound) := ⟨rfl, rfl, rfl, by decide +kernel, rfl, by decide +kernel, by decide +kernel⟩
theorem ok_check_bound (T : Txt K mg) : FnOk prg w K mg base (L2.CX prg w) 3 T.f_check_bound T.fd_check_bound P_check_bound (sp_check_bound T.c_BadBound) := by
  refine T.F_check_bound.okX sc_check_bound (fun vs H Q E h => ?_) (fun cdv A outer s H vs Q E hr h => ?_)
  · obtain ⟨h, g, rfl, _⟩ := h
    rfl
  obtain ⟨h, g, rfl, hs, kg, kb⟩ := h
  have tk : Takes (cxOf (L2.CX prg w) prg w K mg base N_check_bound "check_bound" (defScope s_check_bound) T.f_check_bound cdv A outer s H E) (fun cls d _ H' => E cls d H') := takes_of rfl rfl rfl rfl
  refine ⟨_, (pss_one (ps_if (pt_not (pt_chain op_le op_le pe_int (pv 0) (pv 1))) (pss_one (ps_raise rfl tk (pmk_oex T.o_BadBound T.i_BadBound T.t_BadBound (ok_BadBound_init T) (hr.mono (by decide)) T.b_BadBound_init .nil passN (by rfl) T.m_BadBound (pa_cons (pv 0) pa_nil)))) pss_nil)), ?_⟩
  have bad : ¬ (0 ≤ h ∧ h ≤ g) → _ := fun hb => raise_fld (C := T.c_BadBound) (fld := "most") (n := h) (H1 := H) (Q := E) (log_small hs (by decide)) fun H2 d S2 hd e => kb hb H2 d S2 hd e
  refine ⟨_, rfl, _, _, rfl, rfl, decide (0 ≤ h), rfl, ?_⟩
  by_cases h0 : 0 ≤ h
  · rw [decide_eq_true h0]
    refine iteT ⟨_, rfl, _, _, rfl, rfl, decide (h ≤ g), rfl, ?_⟩
    by_cases h1 : h ≤ g
    · rw [decide_eq_true h1]
      exact iteF (kg ⟨h0, h1⟩)
    · rw [decide_eq_false h1]
      exact iteT ⟨_, rfl, by show 1 ≤ 1000; decide, bad fun z => h1 z.2⟩
  · rw [decide_eq_false h0]
    refine iteF ⟨false, rfl, ?_⟩
    exact iteT ⟨_, rfl, by show 1 ≤ 1000; decide, bad fun z => h0 z.1⟩
end
end Rz

namespace Rz
open PySem PySem.Spec PyProof.Rows L2
/-- the heights that were passed, or none -/
def HtsArg (H : Hp) (z : Str) (ns : List Int) (hv : V) : Prop := (hv = .non ∧ ns = List.replicate z.length 0) ∨ ∃ l, hv = .ref l ∧ H l = some (.lst (ns.map V.int)) ∧ ns.length ≤ 1000000 ∧ ∀ n ∈ ns, n.natAbs < 2 ^ 64
def sp_Row_init (cB cU cH cR : Addr) : Sp := fun vs H Q E => ∃ (p dx : Addr) (z : Str) (hv : V) (ns : List Int), vs = [.ref p, .str z, hv] ∧ z.length ≤ 1000000 ∧ H p = some (.ins cR dx []) ∧ HtsArg H z ns hv ∧
  (match rr z ns with
    | .sign i => ∀ H' d, But [p] H H' → H d = none → H' d = some (.xd [("at", .int (i : Nat))]) → E (.ref cB) (some d) H'
    | .uneven => ∀ H', But [p] H H' → E (.ref cU) none H'
    | .height n => ∀ H' d, But [p] H H' → H d = none → H' d = some (.xd [("height", .int n)]) → E (.ref cH) (some d) H'
    | .row => ∀ H' l, But [p] H H' → H l = none → RAt cR H' p l (z.cps.toList.zip ns) → Q .non H')
section
variable {w : World} {K : PySem.W.Frag} {mg : Str → Option Value} {base : Heap}
theorem sc_Row_init : FnScope N_Row_init P_Row_init (defScope s_Row_init) := ⟨rfl, rfl, rfl, by decide +kernel, rfl, by decide +kernel, by decide +kernel⟩
theorem ok_Row_init (T : Txt K mg) : FnOk prg w K mg base (L2.CX prg w) 4 T.f_Row_init T.fd_Row_init P_Row_init (sp_Row_init T.c_BadSign T.c_Uneven T.c_BadHeight T.c_Row) := by
  refine T.D_Row_init.ok sc_Row_init (fun vs H Q E h => ?_) (fun cdv A outer s H vs Q E hr h => ?_)
  · obtain ⟨p, dx, z, hv, ns, rfl, _⟩ := h
    rfl
  obtain ⟨p, dx, z, hv, ns, rfl, hz, hp, hA, k⟩ := h
  have nd := sc_Row_init.nd
  obtain ⟨tG, k_GREATEST_HEIGHT⟩ := T.k_GREATEST_HEIGHT
  have tk : Takes (cxOf (L2.CX prg w) prg w K mg base N_Row_init "Row.__init__" (defScope s_Row_init) T.f_Row_init cdv A outer s H E) (fun cls d _ H' => E cls d H') := takes_of rfl rfl rfl rfl
  refine ⟨_, (pss_cons (ps_set (i := 3) nd rfl (Or.inl rfl) (pe_fn (ok_decoded T) (hr.mono (by decide)) (by rfl) T.m_decoded T.F_decoded.kp T.b_decoded .nil (passAt tk) (pa_cons (pv 1) pa_nil)))
    (pss_cons (ps_expr (pe_fn (ok_check_text T) (hr.mono (by decide)) (by rfl) T.m_check_text T.F_check_text.kp T.b_check_text .nil (passAt tk) (pa_cons (pv 3) pa_nil)))
    (C8.pss_cut (ps_if (pt_cmp (pc_isN (pv 2)) rfl) (pss_one (ps_set (i := 2) nd rfl (Or.inl rfl) (pe_op op_rep (pe_lst (pa_cons pe_int pa_nil)) (pe_callB call_len_str (by rfl) T.n_len PySem.boot_len (pa_cons (pv 3) pa_nil))))) pss_nil)
    (pss_cons (ps_if (pt_cmpR op_ne (pe_callB call_len_seq (by rfl) T.n_len PySem.boot_len (pa_cons (pv 2) pa_nil)) (pe_callB call_len_str (by rfl) T.n_len PySem.boot_len (pa_cons (pv 3) pa_nil)) (nomark _)) (pss_one (ps_raise rfl tk (pmk_own PySem.F.excBase_ValueError T.o_Uneven T.m_Uneven T.kp_Uneven (raises_own T.r_Uneven T.t_Uneven) rfl))) pss_nil)
    (pss_cons (ps_for (passes_of rfl) rfl (pi_list (pv 2)) (pg_name (i := 4) nd rfl (Or.inl rfl))
      (pss_one (ps_expr (pe_fn (ok_check_height T) (hr.mono (by decide)) (by rfl) T.m_check_height T.F_check_height.kp T.b_check_height .nil (passAt tk) (pa_cons (pv 4) (pa_cons (pe_glob (v := .int 9) (by rfl) k_GREATEST_HEIGHT ⟨_, rfl⟩) pa_nil))))))
    (pss_one (ps_fld (pv 0) (pe_listZip (by rfl) (pa_cons (pv 3) (pa_cons (pv 2) pa_nil)) (by rfl) T.n_list (by decide +kernel) (by rfl) T.n_zip) rfl))))))), ?_⟩
  have hzl : z.length ≤ sizeLine := by rw [sizeLine_eq]; omega
  refine ⟨_, rfl, z, rfl, ?_⟩
  refine ⟨_, rfl, z, rfl, hz, fun f1 H1 S1 => ?_, fun i f1 H1 d S1 hd e => ?_⟩
  rotate_left
  · unfold rr at k
    rw [f1] at k
    exact k H1 d (But.of S1) hd e
  have k2 : (match (if ns.length ≠ z.length then RR.uneven else match ns.find? badH with
      | some n => RR.height n
      | none => RR.row) with
    | .sign i => ∀ H' d, But [p] H H' → H d = none → H' d = some (.xd [("at", .int (i : Nat))]) → E (.ref T.c_BadSign) (some d) H'
    | .uneven => ∀ H', But [p] H H' → E (.ref T.c_Uneven) none H'
    | .height n => ∀ H' d, But [p] H H' → H d = none → H' d = some (.xd [("height", .int n)]) → E (.ref T.c_BadHeight) (some d) H'
    | .row => ∀ H' l, But [p] H H' → H l = none → RAt T.c_Row H' p l (z.cps.toList.zip ns) → Q .non H') := by
    unfold rr at k
    rw [f1] at k
    exact k
  clear k
  refine ⟨fun σ H' => ∃ l : Addr, σ = [some (.ref p), some (.str z), some (.ref l), some (.str z), none] ∧ Same H H' ∧ H' l = some (.lst (ns.map V.int)) ∧ ns.length ≤ 1000000 ∧ ∀ n ∈ ns, n.natAbs < 2 ^ 64, ?_, ?_⟩
  · rcases hA with ⟨rfl, rfl⟩ | ⟨l, rfl, hl, hn, hb⟩
    · refine ⟨_, rfl, _, rfl, iteT ?_⟩
      refine ⟨by decide, fun q hq => ⟨_, rfl, z, rfl, hzl, q, _, _, rfl, rfl, upd_same, by omega, by omega, by simpa using hzl, fun l hl => ?_⟩⟩
      have S2 := Rz.Same.new (o := .lst [.int 0]) S1 hq
      refine ⟨l, rfl, Rz.Same.new S2 hl, ?_, by rw [List.length_replicate]; exact hz, fun n hn => ?_⟩
      · rw [upd_same, Int.toNat_natCast]
        congr 2
        generalize z.length = m
        induction m with
        | zero => rfl
        | succ m ih => rw [List.replicate_succ, List.flatten_cons, ih]; rfl
      · rw [(List.mem_replicate.mp hn).2]
        decide
    · refine ⟨_, rfl, _, rfl, iteF ?_⟩
      exact ⟨l, rfl, S1, S1 _ _ hl, hn, hb⟩
  rintro σ H2 ⟨l, rfl, S2, hl, hn, hb⟩
  refine ⟨_, rfl, l, _, rfl, .inl (SqL.of hl), _, rfl, z, rfl, hzl, rfl, _, rfl, ?_⟩
  rw [List.length_map]
  refine ite2 (fun hd => ?_) (fun hd => ?_)
  · have hne : ns.length ≠ z.length := fun e => by
      rw [e] at hd
      simp at hd
    rw [if_pos hne] at k2
    exact k2 H2 (But.of S2)
  have heq : ns.length = z.length := by
    have h2 : (ns.length : Int) = z.length := by
      have := hd
      simpa using this
    omega
  rw [if_neg (by simp [heq])] at k2
  refine ⟨_, rfl, l, rfl, ⟨_, SqL.of hl⟩, for_list (K := K) (a := l) (xs := ns.map V.int) (fun i σ H' => ∃ v4 : Option V, σ = [some (.ref p), some (.str z), some (.ref l), some (.str z), v4] ∧ H' = H2 ∧ ∀ j n, j < i → ns[j]? = some n → badH n = false)
    ⟨none, rfl, rfl, fun j n hj => absurd hj (Nat.not_lt_zero j)⟩ (fun i σ H' _ ⟨_, _, e, _⟩ => by rw [e]; exact SqL.of hl) ?_ ?_⟩
  · rintro i y σ H' hi ⟨v4, rfl, rfl, hg⟩
    obtain ⟨n, hn2, rfl⟩ := mapi_get hi
    refine ⟨_, rfl, n, 9, rfl, hb n (List.mem_of_getElem? hn2), fun ok => ?_, fun bad H3 d S3 hd3 e3 => ?_⟩
    · refine ⟨_, rfl, rfl, fun j m hj hm => ?_⟩
      by_cases e : j < i
      · exact hg j m e hm
      · have e2 : j = i := by omega
        subst e2
        rw [hn2] at hm
        cases hm
        unfold badH
        simp
        omega
    · have hf : ns.find? badH = some n := by
        rw [List.find?_eq_some_iff_getElem]
        refine ⟨by unfold badH; simp; omega, i, (List.getElem?_eq_some_iff.mp hn2).1, (List.getElem?_eq_some_iff.mp hn2).2, fun j hj => ?_⟩
        have := hg j _ hj (List.getElem?_eq_getElem (Nat.lt_trans hj (List.getElem?_eq_some_iff.mp hn2).1))
        simp [this]
      rw [hf] at k2
      exact k2 H3 d (But.of (S2.trans S3)) (S2.free hd3) e3
  · rintro σ H' ⟨v4, rfl, rfl, hg⟩
    have hf : ns.find? badH = none := by
      rw [List.find?_eq_none]
      intro n hn2
      obtain ⟨j, hj, e⟩ := List.getElem_of_mem hn2
      have := hg j n (by simpa using hj) (by rw [List.getElem?_eq_getElem hj, e])
      simp [this]
    rw [hf] at k2
    refine ⟨_, rfl, _, rfl, z, l, _, rfl, SqL.of hl, by rw [List.length_map]; exact heq.symm, hzl, fun H3 q ts S3 hq hts nq eq hP => ?_⟩
    have hp3 := (S2.trans S3) _ _ hp
    refine ⟨_, rfl, p, _, dx, _, rfl, hp3, T.cl_Row, T.na_Row__pairs, by show 0 < 1000; decide, ?_⟩
    have S23 := S2.trans S3
    refine k2 _ q ((But.of S23).upd (.inl (by simp))) (S2.free hq) ⟨dx, upd_same, ts, ?_, ?_⟩
    · rw [upd_ne (fun z => by rw [z, hp3] at eq; cases eq)]
      exact eq
    · exact (zkv_pairs hP).keep (Tups.upd (fun _ _ e => e) fun xs e => by rw [hp3] at e; cases e)
end
end Rz

namespace Rz
open PySem PySem.Spec PyProof.Rows L2
/-- what Row(z, ..) asks for where it can be made -/
theorem row_new {cB cU cH cR : Addr} {H : Hp} {Q : VK} {E : XK} {z : Str} {hv : V} {ns : List Int} {vs dvs : List V} (e : vs ++ dvs = [.str z, hv]) (hz : z.length ≤ 1000000) (hA : HtsArg H z ns hv) (hrr : rr z ns = .row)
    (k : ∀ (H' : Hp) (x l : Addr), Same H H' → H x = none → H l = none → RAt cR H' x l (z.cps.toList.zip ns) → Q (.ref x) H') : MkR cR (sp_Row_init cB cU cH cR) dvs E vs H Q := by
  rw [mkR_eq, e]
  intro x dx hx hdx ndx
  have hA2 : HtsArg (upd (upd H dx (.own x)) x (.ins cR dx [])) z ns hv := by
    rcases hA with h | ⟨l, e, hl, r⟩
    · exact .inl h
    · exact .inr ⟨l, e, by rw [upd_ne (ne_of_none hl hx), upd_ne (ne_of_none hl hdx)]; exact hl, r⟩
  refine ⟨x, dx, z, hv, ns, rfl, hz, upd_same, hA2, ?_⟩
  rw [hrr]
  intro H4 m B hm hR
  refine ⟨rfl, k H4 x m (fun b o e => ?_) hx ?_ hR⟩
  · exact B b o (by have := ne_of_none e hx; simpa using this) (by rw [upd_ne (ne_of_none e hx), upd_ne (ne_of_none e hdx)]; exact e)
  · cases q : H m with
    | none => rfl
    | some o =>
      rw [upd_ne (ne_of_none q hx), upd_ne (ne_of_none q hdx), q] at hm
      cases hm
theorem rr_empty : rr "" [] = .row := rfl
end Rz

namespace Rz
open PySem PySem.Spec PyProof.Rows L2
def sp_Row_signs (cR : Addr) : Sp := fun vs H Q _ => ∃ (p l : Addr) (ps : List Pr), vs = [.ref p] ∧ RAt cR H p l ps ∧ ps.length ≤ 1000000 ∧ ∀ H', Same H H' → Q (.str (tx ps)) H'
section
variable {w : World} {K : PySem.W.Frag} {mg : Str → Option Value} {base : Heap}
theorem sc_Row_signs : FnScope N_Row_signs P_Row_signs (defScope s_Row_signs) := ⟨rfl, rfl, rfl, by decide +kernel, rfl, by decide +kernel, by decide +kernel⟩
theorem ok_Row_signs (T : Txt K mg) : FnOk prg w K mg base (L2.CX prg w) 1 T.f_Row_signs T.fd_Row_signs P_Row_signs (sp_Row_signs T.c_Row) := by
  refine Rz.Fun.okN T.F_Row_signs sc_Row_signs (fun vs H Q E h => ?_) (fun cdv A outer s H vs Q E hr h => ?_)
  · obtain ⟨p, l, ps, rfl, _⟩ := h
    rfl
  obtain ⟨p, l, ps, rfl, ⟨dx, hp, hL⟩, hz, k⟩ := h
  have nd := sc_Row_signs.nd
  refine ⟨_, (pss_one (ps_ret (pe_join pe_str (pe_lc (own := [("sign", 1), ("_", 2)]) (g := gTup K 2 (gCons (gName 1) (gCons (gName 2) gNil))) (tt := tYes) rfl nd (pi_list (pe_fld (pv 0) rfl)) (blkOk_by (N := N_Row_signs) (sc := defScope s_Row_signs) (by decide +kernel)) (fun _ _ _ _ _ => (pg_tup rfl (pgs_cons (pg_name (i := 1) nd rfl (Or.inl rfl)) (pgs_cons (pg_name (i := 2) nd rfl (Or.inl rfl)) pgs_nil)))) (fun _ _ _ _ _ => pts_nil) (fun _ _ _ _ _ => (pv 1)))))), ?_⟩
  obtain ⟨ts, hl, hP⟩ := id hL
  refine ⟨⟨_, rfl⟩, _, rfl, p, _, dx, _, _, rfl, hp, T.cl_Row, T.na_Row__pairs, rfl, l, rfl, ⟨_, SqL.of hl⟩, fun D hD => lc_pairs (K := K) (l := l) (ps := ps) (fun q => .str ⟨#[q.1]⟩) hL (by rw [sizeLine_eq]; omega) hD ?_ ?_⟩
  · intro t q H2 Q2 _ S e c
    exact ⟨t, _, rfl, SqT.of e, rfl, _, _, rfl, _, _, rfl, rfl, rfl, _, rfl, c _ (Same.refl _)⟩
  · intro H2 S e
    have e2 : ps.map (fun q => V.str ⟨#[q.1]⟩) = (ps.map fun q => (⟨#[q.1]⟩ : Str)).map V.str := by rw [List.map_map]; rfl
    rw [e2] at e
    refine ⟨_, D, _, rfl, rfl, .inl (SqL.of e), ?_, ?_⟩
    · rw [sum_ones (fun y hy => by obtain ⟨q, _, rfl⟩ := List.mem_map.mp hy; rfl), List.length_map]
      show _ + _ * 0 ≤ _
      omega
    · rw [join_signs]
      exact k H2 S
end
end Rz

namespace Rz
open PySem PySem.Spec PyProof.Rows L2
def sp_Row_heights (cR : Addr) : Sp := fun vs H Q _ => ∃ (p l : Addr) (ps : List Pr), vs = [.ref p] ∧ RAt cR H p l ps ∧ ps.length ≤ 1000000 ∧ ∀ H' d, Same H H' → H d = none → H' d = some (.lst ((hts ps).map V.int)) → Q (.ref d) H'
section
variable {w : World} {K : PySem.W.Frag} {mg : Str → Option Value} {base : Heap}
theorem sc_Row_heights : FnScope N_Row_heights P_Row_heights (defScope s_Row_heights) := ⟨rfl, rfl, rfl, by decide +kernel, rfl, by decide +kernel, by decide +kernel⟩
theorem ok_Row_heights (T : Txt K mg) : FnOk prg w K mg base (L2.CX prg w) 1 T.f_Row_heights T.fd_Row_heights P_Row_heights (sp_Row_heights T.c_Row) := by
  refine Rz.Fun.okN T.F_Row_heights sc_Row_heights (fun vs H Q E h => ?_) (fun cdv A outer s H vs Q E hr h => ?_)
  · obtain ⟨p, l, ps, rfl, _⟩ := h
    rfl
  obtain ⟨p, l, ps, rfl, ⟨dx, hp, hL⟩, hz, k⟩ := h
  have nd := sc_Row_heights.nd
  refine ⟨_, (pss_one (ps_ret (pe_lc (own := [("_", 1), ("height", 2)]) (g := gTup K 2 (gCons (gName 1) (gCons (gName 2) gNil))) (tt := tYes) rfl nd (pi_list (pe_fld (pv 0) rfl)) (blkOk_by (N := N_Row_heights) (sc := defScope s_Row_heights) (by decide +kernel)) (fun _ _ _ _ _ => (pg_tup rfl (pgs_cons (pg_name (i := 1) nd rfl (Or.inl rfl)) (pgs_cons (pg_name (i := 2) nd rfl (Or.inl rfl)) pgs_nil)))) (fun _ _ _ _ _ => pts_nil) (fun _ _ _ _ _ => (pv 2))))), ?_⟩
  obtain ⟨ts, hl, hP⟩ := id hL
  refine ⟨_, rfl, p, _, dx, _, _, rfl, hp, T.cl_Row, T.na_Row__pairs, rfl, l, rfl, ⟨_, SqL.of hl⟩, fun D hD => lc_pairs (K := K) (l := l) (ps := ps) (fun q => .int q.2) hL (by rw [sizeLine_eq]; omega) hD ?_ ?_⟩
  · intro t q H2 Q2 _ S e c
    exact ⟨t, _, rfl, SqT.of e, rfl, _, _, rfl, _, _, rfl, rfl, rfl, _, rfl, c _ (Same.refl _)⟩
  · intro H2 S e
    refine k H2 D S hD ?_
    rw [e]
    unfold hts
    rw [List.map_map]
    rfl
end
end Rz

namespace Rz
open PySem PySem.Spec PyProof.Rows L2
def sp_Row_len (cR : Addr) : Sp := fun vs H Q _ => ∃ (p l : Addr) (ps : List Pr), vs = [.ref p] ∧ RAt cR H p l ps ∧ Q (.int (ps.length : Nat)) H
section
variable {w : World} {K : PySem.W.Frag} {mg : Str → Option Value} {base : Heap}
theorem sc_Row_len : FnScope N_Row_len P_Row_len (defScope s_Row_len) := ⟨rfl, rfl, rfl, by decide +kernel, rfl, by decide +kernel, by decide +kernel⟩
theorem ok_Row_len (T : Txt K mg) : FnOk prg w K mg base (L2.CX prg w) 1 T.f_Row_len T.fd_Row_len P_Row_len (sp_Row_len T.c_Row) := by
  refine Rz.Fun.okN T.F_Row_len sc_Row_len (fun vs H Q E h => ?_) (fun cdv A outer s H vs Q E hr h => ?_)
  · obtain ⟨p, l, ps, rfl, _⟩ := h
    rfl
  obtain ⟨p, l, ps, rfl, ⟨dx, hp, ts, hl, hP⟩, k⟩ := h
  refine ⟨_, (pss_one (ps_ret (pe_callB call_len_seq (by rfl) T.n_len PySem.boot_len (pa_cons (pe_fld (pv 0) rfl) pa_nil)))), ?_⟩
  refine ⟨_, rfl, p, _, dx, _, _, rfl, hp, T.cl_Row, T.na_Row__pairs, rfl, l, _, rfl, .inl (SqL.of hl), ?_⟩
  rw [List.length_map, hP.length]
  exact k
end
end Rz

namespace Rz
open PySem PySem.Spec PyProof.Rows L2
/-- an iterator over the row's list -/
def sp_Row_iter (cR : Addr) : Sp := fun vs H Q _ => ∃ (p l : Addr) (ps : List Pr), vs = [.ref p] ∧ RAt cR H p l ps ∧ ∀ it, H it = none → Q (.ref it) (upd H it (ItO l it 0))
section
variable {w : World} {K : PySem.W.Frag} {mg : Str → Option Value} {base : Heap}
theorem sc_Row_iter : FnScope N_Row_iter P_Row_iter (defScope s_Row_iter) := ⟨rfl, rfl, rfl, by decide +kernel, rfl, by decide +kernel, by decide +kernel⟩
theorem ok_Row_iter (T : Txt K mg) : FnOk prg w K mg base (L2.CX prg w) 1 T.f_Row_iter T.fd_Row_iter P_Row_iter (sp_Row_iter T.c_Row) := by
  refine Rz.Fun.okN T.F_Row_iter sc_Row_iter (fun vs H Q E h => ?_) (fun cdv A outer s H vs Q E hr h => ?_)
  · obtain ⟨p, l, ps, rfl, _⟩ := h
    rfl
  obtain ⟨p, l, ps, rfl, ⟨dx, hp, ts, hl, hP⟩, k⟩ := h
  refine ⟨_, (pss_one (ps_ret (pe_callB call_iterL (by rfl) T.n_iter (by decide +kernel) (pa_cons (pe_fld (pv 0) rfl) pa_nil)))), ?_⟩
  exact ⟨_, rfl, p, _, dx, _, _, rfl, hp, T.cl_Row, T.na_Row__pairs, rfl, l, _, rfl, SqL.of hl, k⟩
end
end Rz

namespace Rz
open PySem PySem.Spec PyProof.Rows L2
/-- the greatest height, 0 for none -/
def mostH (ps : List Pr) : Int := (hts ps).foldr max 0
theorem foldr_most : ∀ {ns : List Int} {m : Int}, m ∈ ns → (∀ y ∈ ns, y ≤ m) → 0 ≤ m → ns.foldr max 0 = m
  | n :: ns, m, hm, hall, h0 => by
    have hle : ∀ {xs : List Int}, (∀ y ∈ xs, y ≤ m) → xs.foldr max 0 ≤ m := fun {xs} h => by
      induction xs with
      | nil => exact h0
      | cons x xs ih =>
        have h1 := h x List.mem_cons_self
        have h2 := ih fun y hy => h y (List.mem_cons_of_mem _ hy)
        show max x (xs.foldr max 0) ≤ m
        omega
    have hge : ∀ {xs : List Int}, m ∈ xs → m ≤ xs.foldr max 0 := fun {xs} h => by
      induction xs with
      | nil => cases h
      | cons x xs ih =>
        show m ≤ max x (xs.foldr max 0)
        rcases List.mem_cons.mp h with e | e
        · omega
        · have := ih e
          omega
    have a := hle hall
    have b := hge hm
    omega
theorem most_of {ps : List Pr} {m : Int} (hm : m ∈ hts ps) (hall : ∀ y ∈ hts ps, y ≤ m) (h : GoodR ps) : m = mostH ps := by
  obtain ⟨q, hq, e⟩ := List.mem_map.mp hm
  have := (h q hq).2
  exact (foldr_most hm hall (by omega)).symm
theorem most_zero {ps : List Pr} {m : Int} (hm : m ∈ 0 :: hts ps) (hall : ∀ y ∈ 0 :: hts ps, y ≤ m) : m = mostH ps := by
  have h := foldr_most hm hall (hall 0 List.mem_cons_self)
  have e : (0 :: hts ps).foldr max 0 = max 0 (mostH ps) := rfl
  have t0 : 0 ≤ mostH ps := by
    unfold mostH
    generalize hts ps = ns
    induction ns with
    | nil => exact Int.le_refl 0
    | cons x xs ih =>
      show 0 ≤ max x (xs.foldr max 0)
      omega
  rw [e] at h
  omega
def sp_Row_abs (cR : Addr) : Sp := fun vs H Q _ => ∃ (p l : Addr) (ps : List Pr), vs = [.ref p] ∧ RAt cR H p l ps ∧ ps.length ≤ 1000000 ∧ GoodR ps ∧ ∀ H', Same H H' → Q (.int (mostH ps)) H'
section
variable {w : World} {K : PySem.W.Frag} {mg : Str → Option Value} {base : Heap}
theorem sc_Row_abs : FnScope N_Row_abs P_Row_abs (defScope s_Row_abs) := ⟨rfl, rfl, rfl, by decide +kernel, rfl, by decide +kernel, by decide +kernel⟩
theorem ok_Row_abs (T : Txt K mg) : FnOk prg w K mg base (L2.CX prg w) 4 T.f_Row_abs T.fd_Row_abs P_Row_abs (sp_Row_abs T.c_Row) := by
  refine Rz.Fun.okN T.F_Row_abs sc_Row_abs (fun vs H Q E h => ?_) (fun cdv A outer s H vs Q E hr h => ?_)
  · obtain ⟨p, l, ps, rfl, _⟩ := h
    rfl
  obtain ⟨p, l, ps, rfl, hR, hz, hg, k⟩ := h
  refine ⟨_, (pss_one (ps_ret (pe_callBK (call_maxDef (by rfl)) (by rfl) T.n_max (by decide +kernel) (pa_cons (pe_pr (pv 0) T.cl_Row T.M_Row_heights (ok_Row_heights T) (hr.mono (by decide)) T.b_Row_heights passN) pa_nil) (pk_cons pe_int pk_nil)))), ?_⟩
  obtain ⟨dx, hp, hL⟩ := id hR
  refine ⟨_, rfl, p, dx, _, rfl, hp, p, l, ps, rfl, hR, hz, fun H1 d S1 hd e1 => ?_⟩
  refine ⟨d, hts ps, 0, rfl, rfl, SqL.of e1, fun e0 => ?_, fun m hm hall => ?_⟩
  · have t : mostH ps = 0 := by
      unfold mostH
      rw [e0]
      rfl
    rw [← t]
    exact k H1 S1
  · rw [most_of hm hall hg]
    exact k H1 S1
end
end Rz

namespace Rz
open PySem PySem.Spec PyProof.Rows L2
/-- what becomes of Rule(l, r) -/
inductive RD | sign (i : Nat) | bad | good
def rd (l r : Str) : RD := match fo l with
  | some i => .sign i
  | none => match fo r with
    | some i => .sign i
    | none => if l.length < 1 ∨ l.length > 4 ∨ r.length > 4 then .bad else .good
def ruleF (l r : Str) : List (Str × V) := putF "right" (.str r) (putF "left" (.str l) [])
def sp_Rule_init (cB cR cC : Addr) : Sp := fun vs H Q E => ∃ (p dx : Addr) (l r : Str), vs = [.ref p, .str l, .str r] ∧ l.length ≤ 1000000 ∧ r.length ≤ 1000000 ∧ H p = some (.ins cC dx []) ∧
  (match rd l r with
    | .sign i => ∀ H' d, But [p] H H' → H d = none → H' d = some (.xd [("at", .int (i : Nat))]) → E (.ref cB) (some d) H'
    | .bad => ∀ H', But [p] H H' → E (.ref cR) none H'
    | .good => ∀ H', But [p] H H' → H' p = some (.ins cC dx (ruleF l r)) → Q .non H')
section
variable {w : World} {K : PySem.W.Frag} {mg : Str → Option Value} {base : Heap}
theorem sc_Rule_init : FnScope N_Rule_init P_Rule_init (defScope s_Rule_init) := ⟨rfl, rfl, rfl, by decide +kernel, rfl, by decide +kernel, by decide +kernel⟩
theorem ok_Rule_init (T : Txt K mg) : FnOk prg w K mg base (L2.CX prg w) 4 T.f_Rule_init T.fd_Rule_init P_Rule_init (sp_Rule_init T.c_BadSign T.c_BadRule T.c_Rule) := by
  refine T.D_Rule_init.ok sc_Rule_init (fun vs H Q E h => ?_) (fun cdv A outer s H vs Q E hr h => ?_)
  · obtain ⟨p, dx, l, r, rfl, _⟩ := h
    rfl
  obtain ⟨p, dx, l, r, rfl, hl, hr4, hp, k⟩ := h
  have nd := sc_Rule_init.nd
  obtain ⟨tM, k_MOST_SIGNS⟩ := T.k_MOST_SIGNS
  have tk : Takes (cxOf (L2.CX prg w) prg w K mg base N_Rule_init "Rule.__init__" (defScope s_Rule_init) T.f_Rule_init cdv A outer s H E) (fun cls d _ H' => E cls d H') := takes_of rfl rfl rfl rfl
  refine ⟨_, (pss_cons (ps_expr (pe_fn (ok_check_text T) (hr.mono (by decide)) (by rfl) T.m_check_text T.F_check_text.kp T.b_check_text .nil (passAt tk) (pa_cons (pv 1) pa_nil)))
    (pss_cons (ps_expr (pe_fn (ok_check_text T) (hr.mono (by decide)) (by rfl) T.m_check_text T.F_check_text.kp T.b_check_text .nil (passAt tk) (pa_cons (pv 2) pa_nil)))
    (pss_cons (ps_if (PW.pt (pw_or (pt_not (pt_truth (pv 1) (by intro _; rfl))) (pw_or (pt_cmpR op_gt (pe_callB call_len_str (by rfl) T.n_len PySem.boot_len (pa_cons (pv 1) pa_nil)) (pe_glob (v := .int 4) (by rfl) k_MOST_SIGNS ⟨_, rfl⟩) (nomark _)) (pw_or1 (pt_cmpR op_gt (pe_callB call_len_str (by rfl) T.n_len PySem.boot_len (pa_cons (pv 2) pa_nil)) (pe_glob (v := .int 4) (by rfl) k_MOST_SIGNS ⟨_, rfl⟩) (nomark _)))))) (pss_one (ps_raise rfl tk (pmk_own PySem.F.excBase_ValueError T.o_BadRule T.m_BadRule T.kp_BadRule (raises_own T.r_BadRule T.t_BadRule) rfl))) pss_nil)
    (pss_cons (ps_fld (pv 0) (pv 1) rfl)
    (pss_one (ps_fld (pv 0) (pv 2) rfl)))))), ?_⟩
  have keepP : ∀ {H' : Hp}, Same H H' → H' p = some (.ins T.c_Rule dx []) := fun S => S _ _ hp
  refine ⟨_, rfl, l, rfl, hl, fun f1 H1 S1 => ?_, fun i f1 H1 d S1 hd e => ?_⟩
  · refine ⟨_, rfl, r, rfl, hr4, fun f2 H2 S2 => ?_, fun j i H2 d S2 hd e => ?_⟩
    · have S3 := S1.trans S2
      have g := keepP S3
      have hll : l.length ≤ sizeLine := by rw [sizeLine_eq]; omega
      have hlr : r.length ≤ sizeLine := by rw [sizeLine_eq]; omega
      unfold rd at k
      rw [f1] at k
      dsimp only at k
      rw [f2] at k
      dsimp only at k
      have bad : (l.length < 1 ∨ l.length > 4 ∨ r.length > 4) → E (.ref T.c_BadRule) none H2 := fun h => by
        rw [if_pos h] at k
        exact k H2 (But.of S3)
      have good : ¬ (l.length < 1 ∨ l.length > 4 ∨ r.length > 4) → tSeq (sFld K (tVar 0) (tVar 1) "left") (sFld K (tVar 0) (tVar 2) "right") { nx := fun _ H' => Q .non H', rt := Q } [some (.ref p), some (.str l), some (.str r)] H2 := fun h => by
        rw [if_neg h] at k
        refine ⟨_, rfl, _, rfl, p, _, dx, _, rfl, g, T.cl_Rule, T.na_Rule_left, by show 0 < 1000; decide, ?_⟩
        refine ⟨_, rfl, _, rfl, p, _, dx, _, rfl, upd_same, T.cl_Rule, T.na_Rule_right, by show 1 < 1000; decide, ?_⟩
        exact k _ (((But.of S3).upd (.inl (by simp))).upd (.inl (by simp))) upd_same
      refine ⟨_, rfl, _, ⟨hll, rfl⟩, ?_⟩
      show if (!((l.length : Int) != 0)) = true then _ else _
      refine ite2 (fun h => iteT (bad (.inl (by
        have h2 : ((l.length : Int) != 0) = false := by simpa using h
        have h3 : (l.length : Int) = 0 := by simpa using h2
        omega)))) (fun h => ?_)
      have hl0 : ¬ l.length < 1 := fun z => h (by
        have e : l.length = 0 := by omega
        rw [e]; rfl)
      refine ⟨_, rfl, l, rfl, hll, _, _, rfl, rfl, _, rfl, ?_⟩
      refine ite2 (fun h => iteT (bad (.inr (.inl (by have := of_decide_eq_true h; omega))))) (fun h => ?_)
      have hl4 : ¬ l.length > 4 := fun z => h (decide_eq_true (by omega))
      refine ⟨_, rfl, r, rfl, hlr, _, _, rfl, rfl, _, rfl, ?_⟩
      refine ite2 (fun h => bad (.inr (.inr (by have := of_decide_eq_true h; omega)))) (fun h => ?_)
      have hr5 : ¬ r.length > 4 := fun z => h (decide_eq_true (by omega))
      exact good (by omega)
    · have S3 := S1.trans S2
      unfold rd at k
      rw [f1] at k
      dsimp only at k
      rw [i] at k
      exact k H2 d (But.of S3) (S1.free hd) e
  · unfold rd at k
    rw [f1] at k
    exact k H1 d (But.of S1) hd e
end
end Rz

namespace Rz
open PySem PySem.Spec PyProof.Rows L2
def ruleT (l r : Str) : Str := Str.empty ++ l ++ ":" ++ r
def sp_Rule_str (cC : Addr) : Sp := fun vs H Q _ => ∃ (p dx : Addr) (l r : Str), vs = [.ref p] ∧ l.length ≤ 1000000 ∧ r.length ≤ 1000000 ∧ H p = some (.ins cC dx (ruleF l r)) ∧ Q (.str (ruleT l r)) H
theorem ruleF_left (l r : Str) : (ruleF l r).lookup ("left" : Str) = some (.str l) := by
  unfold ruleF
  rw [lookup_putF, if_neg (by decide), lookup_putF, if_pos rfl]
theorem ruleF_right (l r : Str) : (ruleF l r).lookup ("right" : Str) = some (.str r) := by
  unfold ruleF
  rw [lookup_putF, if_pos rfl]
section
variable {w : World} {K : PySem.W.Frag} {mg : Str → Option Value} {base : Heap}
theorem sc_Rule_str : FnScope N_Rule_str P_Rule_str (defScope s_Rule_str) := ⟨rfl, rfl, rfl, by decide +kernel, rfl, by decide +kernel, by decide +kernel⟩
theorem ok_Rule_str (T : Txt K mg) : FnOk prg w K mg base (L2.CX prg w) 1 T.f_Rule_str T.fd_Rule_str P_Rule_str (sp_Rule_str T.c_Rule) := by
  refine Rz.Fun.okN T.F_Rule_str sc_Rule_str (fun vs H Q E h => ?_) (fun cdv A outer s H vs Q E hr h => ?_)
  · obtain ⟨p, dx, l, r, rfl, _⟩ := h
    rfl
  obtain ⟨p, dx, l, r, rfl, hl, hr1, hp, k⟩ := h
  refine ⟨_, (pss_one (ps_ret (pe_joined (.cons (pe_fmt (pe_fld (pv 0) rfl)) (.cons pe_str (.cons (pe_fmt (pe_fld (pv 0) rfl)) .nil)))))), ?_⟩
  refine ⟨_, rfl, p, _, dx, _, _, rfl, hp, T.cl_Rule, T.na_Rule_left, ruleF_left l r, .inl ⟨l, rfl, by rw [sizeLine_eq]; omega, l, rfl, ?_, ":", rfl, ?_, ?_⟩⟩
  · rw [Str.length_append, sizeLine_eq]
    show 0 + l.length ≤ _
    omega
  · rw [Str.length_append, Str.length_append, sizeLine_eq]
    show 0 + l.length + 1 ≤ _
    omega
  refine ⟨_, rfl, p, _, dx, _, _, rfl, hp, T.cl_Rule, T.na_Rule_right, ruleF_right l r, .inl ⟨r, rfl, by rw [sizeLine_eq]; omega, r, rfl, ?_, k⟩⟩
  rw [Str.length_append, Str.length_append, Str.length_append, sizeLine_eq]
  show 0 + l.length + 1 + r.length ≤ _
  omega
end
end Rz

namespace Rz
open PySem PySem.Spec PyProof.Rows L2
/-- a rule stands at q -/
def RuAt (cC : Addr) (H : Hp) (q : Addr) (l r : Str) : Prop := ∃ dq, H q = some (.ins cC dq (ruleF l r))
theorem RuAt.same {cC : Addr} {H H' : Hp} {q : Addr} {l r : Str} (h : RuAt cC H q l r) (S : Same H H') : RuAt cC H' q l r := let ⟨d, e⟩ := h; ⟨d, S _ _ e⟩
theorem RuAt.but {cC : Addr} {D : List Addr} {H H' : Hp} {q : Addr} {l r : Str} (h : RuAt cC H q l r) (B : But D H H') (n : q ∉ D) : RuAt cC H' q l r := let ⟨d, e⟩ := h; ⟨d, B.at e n⟩
end Rz

namespace Rz
open PySem PySem.Spec PyProof.Rows L2
def sp_fits (cC : Addr) : Sp := fun vs H Q _ => ∃ (q : Addr) (l r x : Str) (i : Int), vs = [.ref q, .str x, .int i] ∧ RuAt cC H q l r ∧ l.cps.toList ≠ [] ∧ Q (.bl (fitAt x.cps.toList l.cps.toList i)) H
section
variable {w : World} {K : PySem.W.Frag} {mg : Str → Option Value} {base : Heap}
theorem sc_fits : FnScope N__fits P__fits (defScope s__fits) := ⟨rfl, rfl, rfl, by decide +kernel, rfl, by decide +kernel, by decide +kernel⟩
theorem ok_fits (T : Txt K mg) : FnOk prg w K mg base (L2.CX prg w) 1 T.f__fits T.fd__fits P__fits (sp_fits T.c_Rule) := by
  refine Rz.Fun.okN T.F__fits sc_fits (fun vs H Q E h => ?_) (fun cdv A outer s H vs Q E hr h => ?_)
  · obtain ⟨q, l, r, x, i, rfl, _⟩ := h
    rfl
  obtain ⟨q, l, r, x, i, rfl, ⟨dq, hq⟩, hl, k⟩ := h
  refine ⟨_, (pss_one (ps_ret (pe_and (pe_cmpR op_ge (pv 2) pe_int (nomark _)) (pe_one (pe_bm PySem.F.plainAttrs_str PySem.F.slot_str_startswith PySem.F.type_str_startswith mt_startswith3 (pv 1) (pa_cons (pe_fld (pv 0) rfl) (pa_cons (pv 2) pa_nil))))))), ?_⟩
  refine ⟨_, rfl, _, _, rfl, rfl, _, rfl, ?_⟩
  by_cases h0 : 0 ≤ i
  · rw [decide_eq_true h0]
    refine iteT ⟨_, rfl, rfl, _, rfl, q, _, dq, _, _, rfl, hq, T.cl_Rule, T.na_Rule_left, ruleF_left l r, _, rfl, x, l, i, rfl, rfl, ?_⟩
    rw [starts_fit h0 hl]
    exact k
  · rw [decide_eq_false h0]
    refine iteF ?_
    have e : fitAt x.cps.toList l.cps.toList i = false := by
      unfold fitAt
      rw [decide_eq_false h0]
      rfl
    rw [e] at k
    exact k
end
end Rz

namespace Rz
open PySem PySem.Spec PyProof.Rows L2
/-- what Rule(l, r) asks for where it can be made -/
theorem rule_new {cB cR cC : Addr} {H : Hp} {Q : VK} {E : XK} {l r : Str} {vs dvs : List V} (e : vs ++ dvs = [.str l, .str r]) (hl : l.length ≤ 1000000) (hr : r.length ≤ 1000000) (hg : rd l r = .good)
    (k : ∀ (H' : Hp) (q : Addr), Same H H' → H q = none → RuAt cC H' q l r → Q (.ref q) H') : MkR cC (sp_Rule_init cB cR cC) dvs E vs H Q := by
  rw [mkR_eq, e]
  intro x dx hx hdx ndx
  refine ⟨x, dx, l, r, rfl, hl, hr, upd_same, ?_⟩
  rw [hg]
  intro H4 B e4
  refine ⟨rfl, k H4 x (fun b o e => ?_) hx ⟨dx, e4⟩⟩
  exact B b o (by have := ne_of_none e hx; simpa using this) (by rw [upd_ne (ne_of_none e hx), upd_ne (ne_of_none e hdx)]; exact e)
end Rz

namespace Rz
open PySem PySem.Spec PyProof.Rows L2
theorem rd_good {l r : Str} (h : rd l r = .good) : fo l = none ∧ fo r = none ∧ 1 ≤ l.length ∧ l.length ≤ 4 ∧ r.length ≤ 4 := by
  unfold rd at h
  cases e1 : fo l with
  | some i => rw [e1] at h; cases h
  | none =>
    rw [e1] at h
    cases e2 : fo r with
    | some i => rw [e2] at h; cases h
    | none =>
      rw [e2] at h
      dsimp only at h
      by_cases c : l.length < 1 ∨ l.length > 4 ∨ r.length > 4
      · rw [if_pos c] at h; cases h
      · exact ⟨rfl, rfl, by omega, by omega, by omega⟩
theorem good_rd {l r : Str} (h1 : fo l = none) (h2 : fo r = none) (h3 : 1 ≤ l.length) (h4 : l.length ≤ 4) (h5 : r.length ≤ 4) : rd l r = .good := by
  unfold rd
  rw [h1]
  dsimp only
  rw [h2]
  dsimp only
  rw [if_neg (by omega)]
theorem str_ne {z : Str} (h : 1 ≤ z.length) : z.cps.toList ≠ [] := fun e => by
  have : z.cps.toList.length = 0 := by rw [e]; rfl
  rw [len_list] at this
  omega
theorem rep1 (n : Nat) (h : Int) : (List.replicate n [V.int h]).flatten = (List.replicate n h).map V.int := by
  induction n with
  | zero => rfl
  | succ n ih => rw [List.replicate_succ, List.flatten_cons, ih]; rfl
theorem cut_hts {ps : List Pr} {i n : Nat} (h : i + n ≤ ps.length) : cutV ((hts ps).map V.int) (some (i : Int)) (some ((i + n : Nat) : Int)) = (hts ((ps.drop i).take n)).map V.int := by
  rw [cutV_nat (by omega) (by rw [List.length_map, hts_len]; exact h)]
  unfold hts
  rw [show i + n - i = n by omega, ← List.map_drop, ← List.map_take, ← List.map_drop, ← List.map_take]
end Rz

namespace Rz
open PySem PySem.Spec PyProof.Rows L2
/-! ### books -/
abbrev Ru := Str × Str
/-- the objects ts are the rules rs -/
def RuL (cC : Addr) (H : Hp) (ts : List Addr) (rs : List Ru) : Prop := Paired (fun (t : Addr) (r : Ru) => RuAt cC H t r.1 r.2) ts rs
theorem RuL.same {cC : Addr} {H H' : Hp} (S : Same H H') : ∀ {ts : List Addr} {rs : List Ru}, RuL cC H ts rs → RuL cC H' ts rs
  | _, _, .nil => .nil
  | _, _, .cons e r => .cons (RuAt.same e S) (RuL.same S r)
theorem RuL.len {cC : Addr} {H : Hp} {ts : List Addr} {rs : List Ru} (h : RuL cC H ts rs) : ts.length = rs.length := Paired.length h
theorem RuL.but {cC : Addr} {D : List Addr} {H H' : Hp} (B : But D H H') (n : ∀ x ∈ D, ∀ dq l r, H x ≠ some (.ins cC dq (ruleF l r))) : ∀ {ts : List Addr} {rs : List Ru}, RuL cC H ts rs → RuL cC H' ts rs
  | _, _, .nil => .nil
  | _, _, .cons ⟨dq, e⟩ r => .cons ⟨dq, B _ _ (fun z => n _ z _ _ _ e) e⟩ (RuL.but B n r)
theorem RuL.append {cC : Addr} {H : Hp} : ∀ {ts us : List Addr} {rs qs : List Ru}, RuL cC H ts rs → RuL cC H us qs → RuL cC H (ts ++ us) (rs ++ qs)
  | _, _, _, _, .nil, s => s
  | _, _, _, _, .cons e t, s => .cons e (RuL.append t s)
theorem RuL.take {cC : Addr} {H : Hp} : ∀ {ts : List Addr} {rs : List Ru} (n : Nat), RuL cC H ts rs → RuL cC H (ts.take n) (rs.take n)
  | _, _, 0, _ => .nil
  | _, _, _ + 1, .nil => .nil
  | _, _, n + 1, .cons e r => .cons e (RuL.take n r)
theorem RuL.drop {cC : Addr} {H : Hp} : ∀ {ts : List Addr} {rs : List Ru} (n : Nat), RuL cC H ts rs → RuL cC H (ts.drop n) (rs.drop n)
  | _, _, 0, h => h
  | _, _, _ + 1, .nil => .nil
  | _, _, n + 1, .cons _ r => RuL.drop n r
theorem RuL.get {cC : Addr} {H : Hp} : ∀ {ts : List Addr} {rs : List Ru} {i : Nat} {t : Addr}, RuL cC H ts rs → ts[i]? = some t → ∃ r, rs[i]? = some r ∧ RuAt cC H t r.1 r.2
  | _, _, i, t, .nil, h => by cases h
  | _, _, 0, t, .cons e r, h => by
    have z := Option.some.inj h
    subst z
    exact ⟨_, rfl, e⟩
  | _, _, i + 1, t, .cons e r, h => RuL.get (i := i) r (by simpa using h)
/-- a book: its tuple stands at t -/
def BkAt (cB cC : Addr) (H : Hp) (b t : Addr) (rs : List Ru) : Prop := ∃ dx ts, H b = some (.ins cB dx [("_rules", .ref t)]) ∧ H t = some (.tup (ts.map V.ref)) ∧ RuL cC H ts rs
theorem BkAt.same {cB cC : Addr} {H H' : Hp} {b t : Addr} {rs : List Ru} (h : BkAt cB cC H b t rs) (S : Same H H') : BkAt cB cC H' b t rs := let ⟨dx, ts, h1, h2, h3⟩ := h; ⟨dx, ts, S _ _ h1, S _ _ h2, h3.same S⟩
theorem rule_no_book {l r : Str} {v : V} : ruleF l r ≠ [(("_rules" : Str), v)] := fun h => by
  have e := congrArg List.length h
  cases e
/-- what changes is a list, or another book -/
theorem BkAt.but {cB cC : Addr} {D : List Addr} {H H' : Hp} {b t : Addr} {rs : List Ru} (h : BkAt cB cC H b t rs) (B : But D H H') (nb : b ∉ D) (n : ∀ x ∈ D, (∃ xs, H x = some (.lst xs)) ∨ ∃ dx v, H x = some (.ins cB dx [("_rules", v)])) : BkAt cB cC H' b t rs := by
  obtain ⟨dx, ts, h1, h2, h3⟩ := h
  refine ⟨dx, ts, B _ _ nb h1, B _ _ (fun z => ?_) h2, h3.but B fun x hx dq l r e => ?_⟩
  · rcases n t z with ⟨xs, e⟩ | ⟨d, v, e⟩
    · rw [e] at h2; cases h2
    · rw [e] at h2; cases h2
  · rcases n x hx with ⟨xs, e2⟩ | ⟨d, v, e2⟩
    · rw [e2] at e; cases e
    · rw [e2] at e
      have q := Option.some.inj e
      injection q with _ _ q3
      exact rule_no_book q3.symm
def GoodB (rs : List Ru) : Prop := ∀ r ∈ rs, rd r.1 r.2 = .good
theorem good_len {r : Ru} (h : rd r.1 r.2 = .good) : r.1.length ≤ 4 ∧ r.2.length ≤ 4 ∧ 1 ≤ r.1.length := by
  unfold rd at h
  split at h
  · cases h
  · split at h
    · cases h
    · split at h
      · cases h
      · omega
/-- a comprehension over a tuple of rules -/
theorem lc_rules {K : PySem.W.Frag} {cC l : Addr} {ts : List Addr} {rs : List Ru} {g : TG} {te : TE} {vs : List Nat} {σ : L2.St} {H1 : Hp} {D : Addr} {Qd : Hp → Prop} (f : Ru → V) (hl : H1 l = some (.tup (ts.map V.ref))) (hP : RuL cC H1 ts rs) (hz : rs.length ≤ sizeLine) (hD : H1 D = none)
    (body : ∀ (t : Addr) (r : Ru) (H : Hp) (Q : VK), r ∈ rs → Same H1 H → RuAt cC H t r.1 r.2 → (∀ H4, Same H H4 → Q (f r) H4) → g (.ref t) (wipe σ vs) H fun σ2 H2 => wipe σ2 vs = wipe σ vs ∧ te σ2 H2 Q)
    (hd : ∀ H, Same H1 H → H D = some (.lst (rs.map f)) → Qd H) :
    ∃ W : Nat → Nat → Hp → Prop, (∃ m, W 0 m (upd H1 D (.lst []))) ∧ ∀ i m H, W i m H →
      ((Itt K l).stop i H ∧ Qd H) ∨ ((Itt K l).go i H ∧ ∃ Nx : Hp → Prop, (∀ H', Nx H' → ∃ m', m' < m ∧ W (i + 1) m' H') ∧ ∀ x H', (Itt K l).yld i H x H' → g x (wipe σ vs) H' fun σ2 H2 => wipe σ2 vs = wipe σ vs ∧ tYes σ2 H2 fun b H3 =>
        if b = true then te σ2 H3 fun y H4 => ∃ acc, H4 D = some (.lst acc) ∧ acc.length < sizeLine ∧ Nx (upd H4 D (.lst (acc ++ [y]))) else Nx H3) := by
  refine lc_tup (K := K) (a := l) (xs := ts.map V.ref) (fun i H => Same H1 H ∧ H D = some (.lst ((rs.take i).map f))) ⟨Rz.Same.new (Same.refl H1) hD, upd_same⟩ (fun i H _ h => SqT.of (h.1 _ _ hl)) (fun i x H hx h => ?_) (fun H h => hd H h.1 ?_)
  · obtain ⟨S, e⟩ := h
    obtain ⟨t, ht, rfl⟩ := refs_get hx
    obtain ⟨p, hp, h2⟩ := hP.get ht
    have hi : i < rs.length := (List.getElem?_eq_some_iff.mp hp).1
    refine body t p H _ (List.mem_of_getElem? hp) S (h2.same S) fun H4 S4 => ⟨_, S4 _ _ e, ?_, Rz.Same.upd (S.trans S4) hD, ?_⟩
    · rw [List.length_map, List.length_take]
      omega
    · rw [upd_same, List.take_add_one, hp, List.map_append]
      rfl
  · have := h.2
    rw [List.length_map, hP.len, List.take_length] at this
    exact this
end Rz

namespace Rz
open PySem PySem.Spec PyProof.Rows L2
theorem fold_least : ∀ {ns : List Int} {m : Int}, (∀ y ∈ ns, y ≤ m) → 0 ≤ m → ns.foldr max 0 ≤ m
  | [], m, _, h0 => h0
  | n :: ns, m, h, h0 => by
    have a := h n List.mem_cons_self
    have b := fold_least (ns := ns) (fun y hy => h y (List.mem_cons_of_mem _ hy)) h0
    show max n (ns.foldr max 0) ≤ m
    omega
theorem fold_above : ∀ {ns : List Int} {m : Int}, m ∈ ns → m ≤ ns.foldr max 0
  | n :: ns, m, h => by
    show m ≤ max n (ns.foldr max 0)
    rcases List.mem_cons.mp h with e | e
    · omega
    · have := fold_above e
      omega
theorem fold_pos : ∀ {ns : List Int}, 0 ≤ ns.foldr max 0
  | [] => Int.le_refl _
  | n :: ns => by
    have := fold_pos (ns := ns)
    show 0 ≤ max n (ns.foldr max 0)
    omega
theorem fold_most {ns : List Int} {m : Int} (hm : m ∈ ns) (h : ∀ y ∈ ns, y ≤ m) (h0 : 0 ≤ m) : ns.foldr max 0 = m :=
  Int.le_antisymm (fold_least h h0) (fold_above hm)
end Rz

namespace Rz
open PySem PySem.Spec PyProof.Rows L2
/-- the rules by position -/
def sp_Book_init (cF cB : Addr) : Sp := fun vs H Q E => ∃ (x dx : Addr) (ys : List V), vs = V.ref x :: ys ∧ ys.length ≤ 1000 ∧ H x = some (.ins cB dx []) ∧
  ∀ t, H t = none → (ys.length ≤ 6 → ∀ H', But [x] (upd H t (.tup ys)) H' → H' x = some (.ins cB dx [("_rules", .ref t)]) → Q .non H') ∧ (6 < ys.length → E (.ref cF) none (upd H t (.tup ys)))
section
variable {w : World} {K : PySem.W.Frag} {mg : Str → Option Value} {base : Heap}
theorem sc_Book_init : FnScope N_Book_init P_Book_init (defScope s_Book_init) := ⟨rfl, rfl, rfl, by decide +kernel, rfl, by decide +kernel, by decide +kernel⟩
theorem ok_Book_init (T : Txt K mg) : FnR prg w K mg base (L2.CX prg w) 3 T.f_Book_init (sp_Book_init T.c_BookFull T.c_Book) := by
  obtain ⟨oc, od, kV, doc, pm, an, cdv, ct, osl, efd, lk, hcd⟩ := T.F_Book_init.ex
  rw [efd] at lk
  refine FnR.imp (StX.fn_star (ps := ["self"]) (pv := "rules") (k := 2) lk hcd sc_Book_init StX.cxUp (StX.bind_star1 (B := fun us => bindArgs (PySem.W.fnOf "__init__" "Book.__init__" (defArgs s_Book_init) (defBody s_Book_init) (defScope s_Book_init) .none kV doc pm an cdv ct) ⟨us, []⟩) (p1 := "self") (pv := "rules") (fun a => rfl) (fun a r rs => rfl)) (sp := fun vs H Q E => ∃ (x dx t : Addr) (ys : List V), vs = [.ref x, .ref t] ∧ H x = some (.ins T.c_Book dx []) ∧ H t = some (.tup ys) ∧ ys.length ≤ 1000 ∧
    (ys.length ≤ 6 → ∀ H', But [x] H H' → H' x = some (.ins T.c_Book dx [("_rules", .ref t)]) → Q .non H') ∧ (6 < ys.length → E (.ref T.c_BookFull) none H)) (fun A outer s H vs Q E hr h => ?_)) (fun vs H Q E h => ?_)
  · obtain ⟨x, dx, t, ys, rfl, hx, ht, hz, k1, k2⟩ := h
    have nd := sc_Book_init.nd
    obtain ⟨tM, k_MOST_RULES⟩ := T.k_MOST_RULES
    have tk : Takes (cxOf (L2.CX prg w) prg w K mg base N_Book_init "Book.__init__" (defScope s_Book_init) T.f_Book_init cdv A outer s H E) (fun cls d _ H' => E cls d H') := takes_of rfl rfl rfl rfl
    refine ⟨_, (pss_cons (ps_if (pt_cmpR op_gt (pe_callB call_len_seq (by rfl) T.n_len PySem.boot_len (pa_cons (pv 1) pa_nil)) (pe_glob (v := .int 6) (by rfl) k_MOST_RULES ⟨_, rfl⟩) (nomark _)) (pss_one (ps_raise rfl tk (pmk_own PySem.F.excBase_ValueError T.o_BookFull T.m_BookFull T.kp_BookFull (raises_own T.r_BookFull T.t_BookFull) rfl))) pss_nil)
      (pss_one (ps_fld (pv 0) (pe_callTy call_tuple_of (by rfl) T.n_tuple (by decide +kernel) (pa_cons (pv 1) pa_nil)) rfl))), ?_⟩
    refine ⟨_, rfl, t, ys, rfl, .inr (SqT.of ht), _, _, rfl, rfl, _, rfl, ?_⟩
    refine ite2 (fun h => ?_) (fun h => ?_)
    · exact k2 (by have := of_decide_eq_true h; omega)
    · refine ⟨_, rfl, t, ys, rfl, .inr ⟨SqT.of ht, _, rfl, x, _, dx, _, rfl, hx, T.cl_Book, T.na_Book__rules, by show 0 < 1000; decide, ?_⟩⟩
      exact k1 (by
        have h2 : ¬ ((ys.length : Int) > 6) := fun z => h (decide_eq_true z)
        omega) _ ((But.refl [x] H).upd (.inl (by simp))) upd_same
  · obtain ⟨x, dx, ys, rfl, hz, hx, hk⟩ := h
    refine ⟨[.ref x], ys, rfl, rfl, by rw [sizeLine_eq]; omega, fun p hp => ?_⟩
    obtain ⟨k1, k2⟩ := hk p hp
    exact ⟨x, dx, p, ys, rfl, by rw [upd_ne (ne_of_none hx hp)]; exact hx, upd_same, hz, k1, k2⟩
/-- a new book -/
theorem book_new {cF cB cC : Addr} {H : Hp} {Q : VK} {E : XK} {vs : List V} {ts : List Addr} {rs : List Ru} (ev : vs = ts.map V.ref) (h6 : rs.length ≤ 6) (hP : RuL cC H ts rs) (k : ∀ (H' : Hp) (b t : Addr), Same H H' → H b = none → H t = none → BkAt cB cC H' b t rs → Q (.ref b) H') :
    MkS cB (sp_Book_init cF cB) E vs H Q := by
  subst ev
  rw [mkS_eq]
  intro x dx hx hdx ndx
  have hl := hP.len
  refine ⟨x, dx, ts.map V.ref, rfl, by rw [List.length_map]; omega, upd_same, fun t ht => ⟨fun _ H' B e => ?_, fun h => by rw [List.length_map] at h; omega⟩⟩
  have ht0 : H t = none := by
    cases q : H t with
    | none => rfl
    | some o => rw [upd_ne (ne_of_none q hx), upd_ne (ne_of_none q hdx), q] at ht; cases ht
  have ntx : t ≠ x := fun z => by rw [z, upd_same] at ht; cases ht
  have S : Same H H' := fun b o e0 => B b o (by have := ne_of_none e0 hx; simpa using this) (by rw [upd_ne (ne_of_none e0 ht0), upd_ne (ne_of_none e0 hx), upd_ne (ne_of_none e0 hdx)]; exact e0)
  exact ⟨rfl, k H' x t S hx ht0 ⟨dx, ts, e, B t _ (by simpa using ntx) upd_same, hP.same S⟩⟩
/-- too many rules -/
theorem book_full {cF cB : Addr} {H : Hp} {Q : VK} {E : XK} {vs : List V} (h6 : 6 < vs.length) (hz : vs.length ≤ 1000) (k : ∀ H', Same H H' → E (.ref cF) none H') : MkS cB (sp_Book_init cF cB) E vs H Q := by
  rw [mkS_eq]
  intro x dx hx hdx ndx
  refine ⟨x, dx, vs, rfl, hz, upd_same, fun t ht => ⟨fun h => by omega, fun _ => k _ fun b o e0 => ?_⟩⟩
  have ht0 : H t = none := by
    cases q : H t with
    | none => rfl
    | some o => rw [upd_ne (ne_of_none q hx), upd_ne (ne_of_none q hdx), q] at ht; cases ht
  rw [upd_ne (ne_of_none e0 ht0), upd_ne (ne_of_none e0 hx), upd_ne (ne_of_none e0 hdx)]
  exact e0
end
end Rz

namespace Rz
open PySem PySem.Spec PyProof.Rows L2
def lenR (rs : List Ru) : List Int := rs.map fun r => (r.2.length : Int)
def longR (rs : List Ru) : Int := (lenR rs).foldr max 0
def sp_Book_longest (cB cC : Addr) : Sp := fun vs H Q _ => ∃ (b t : Addr) (rs : List Ru), vs = [.ref b] ∧ BkAt cB cC H b t rs ∧ GoodB rs ∧ rs.length ≤ 6 ∧ ∀ H', Same H H' → Q (.int (longR rs)) H'
section
variable {w : World} {K : PySem.W.Frag} {mg : Str → Option Value} {base : Heap}
theorem sc_Book_longest : FnScope N_Book_longest P_Book_longest (defScope s_Book_longest) := ⟨rfl, rfl, rfl, by decide +kernel, rfl, by decide +kernel, by decide +kernel⟩
theorem ok_Book_longest (T : Txt K mg) : FnOk prg w K mg base (L2.CX prg w) 2 T.f_Book_longest T.fd_Book_longest P_Book_longest (sp_Book_longest T.c_Book T.c_Rule) := by
  refine Rz.Fun.okN T.F_Book_longest sc_Book_longest (fun vs H Q E h => ?_) (fun cdv A outer s H vs Q E hr h => ?_)
  · obtain ⟨p, l, ps, rfl, _⟩ := h
    rfl
  obtain ⟨b, t, rs, rfl, ⟨dx, ts, hb, ht, hP⟩, hg, h6, k⟩ := h
  have nd := sc_Book_longest.nd
  refine ⟨_, (pss_one (ps_ret (pe_callBK (call_maxDef (by rfl)) (by rfl) T.n_max (by decide +kernel) (pa_cons (pe_lc (own := [("rule", 1)]) (g := (gName 1)) (tt := tYes) rfl nd (pi_tup (pe_fld (pv 0) rfl)) (blkOk_by (N := N_Book_longest) (sc := defScope s_Book_longest) (by decide +kernel)) (fun _ _ _ _ _ => (pg_name (i := 1) nd rfl (Or.inl rfl))) (fun _ _ _ _ _ => pts_nil) (fun _ _ _ _ _ => (pe_callB call_len_str (by rfl) T.n_len PySem.boot_len (pa_cons (show PE _ _ (tFld K (tVar 1) "right") from pe_fld (pv 1) rfl) pa_nil)))) pa_nil) (pk_cons pe_int pk_nil)))), ?_⟩
  refine ⟨_, rfl, b, _, dx, _, _, rfl, hb, T.cl_Book, T.na_Book__rules, rfl, t, rfl, ⟨_, SqT.of ht⟩, fun D hD => lc_rules (K := K) (cC := T.c_Rule) (l := t) (ts := ts) (rs := rs) (fun r => .int (r.2.length : Nat)) ht hP (by rw [sizeLine_eq]; omega) hD ?_ ?_⟩
  · rintro u r H2 Q2 hr2 S2 ⟨dq, eu⟩ kk
    have gl := good_len (hg r hr2)
    exact ⟨rfl, _, rfl, u, _, dq, _, _, rfl, eu, T.cl_Rule, T.na_Rule_right, rfl, r.2, rfl, by rw [sizeLine_eq]; omega, kk _ (Same.refl _)⟩
  intro H2 S2 e2
  have e2' : rs.map (fun r => V.int (r.2.length : Nat)) = (lenR rs).map V.int := by
    unfold lenR
    rw [List.map_map]
    rfl
  rw [e2'] at e2
  refine ⟨D, lenR rs, 0, rfl, rfl, SqL.of e2, fun e0 => ?_, fun m hm hall => ?_⟩
  · have q : longR rs = 0 := by
      unfold longR
      rw [e0]
      rfl
    rw [← q]
    exact k H2 S2
  · have h0 : 0 ≤ m := by
      obtain ⟨r, _, rfl⟩ := List.mem_map.mp hm
      omega
    have q : longR rs = m := fold_most hm hall h0
    rw [← q]
    exact k H2 S2
end
end Rz

namespace Rz
open PySem PySem.Spec PyProof.Rows L2
theorem fo_in {z : Str} (h : fo z = none) : ∀ c ∈ z.cps.toList, c ∈ abc.cps.toList := fun c hc => by
  have q : oddC c = false := by
    unfold fo at h
    have := List.findIdx?_eq_none_iff.mp h c hc
    simpa using this
  simpa [oddC] using q
theorem rd_fo {l r : Str} (h : rd l r = .good) : fo l = none ∧ fo r = none := by
  unfold rd at h
  split at h
  · cases h
  · rename_i e1
    split at h
    · cases h
    · rename_i e2
      exact ⟨e1, e2⟩
theorem strOk_of {z : Str} (h : fo z = none) : PyData.strOk z = true := by
  show z.cps.all (· < 0x110000) = true
  rw [← Array.all_toList, List.all_eq_true]
  intro c hc
  have le : ∀ y ∈ abc.cps.toList, y < 0x110000 := by decide +kernel
  exact decide_eq_true (le c (fo_in h c hc))
end Rz

namespace Rz
open PySem PySem.Spec PyProof.Rows L2
def wrT (rs : List Ru) : Str := Txt.join "\n" (rs.map fun r => ruleT r.1 r.2)
def sp_Book_written (cB cC : Addr) : Sp := fun vs H Q _ => ∃ (b t : Addr) (rs : List Ru), vs = [.ref b] ∧ BkAt cB cC H b t rs ∧ GoodB rs ∧ rs.length ≤ 6 ∧ ∀ H', Same H H' → Q (.str (wrT rs)) H'
theorem ruleT_len {r : Ru} (h : rd r.1 r.2 = .good) : (ruleT r.1 r.2).length ≤ 9 := by
  have := good_len h
  unfold ruleT
  rw [Str.length_append, Str.length_append, Str.length_append]
  show 0 + r.1.length + 1 + r.2.length ≤ 9
  omega
theorem ruleT_sum : ∀ {rs : List Ru}, GoodB rs → ((rs.map fun r => ruleT r.1 r.2).map fun y => y.length).sum ≤ 9 * rs.length
  | [], _ => Nat.le_refl _
  | r :: rs, h => by
    have a := ruleT_len (h r List.mem_cons_self)
    have b := ruleT_sum (rs := rs) fun x hx => h x (List.mem_cons_of_mem _ hx)
    simp only [List.map_cons, List.sum_cons, List.length_cons]
    omega
section
variable {w : World} {K : PySem.W.Frag} {mg : Str → Option Value} {base : Heap}
theorem sc_Book_written : FnScope N_Book_written P_Book_written (defScope s_Book_written) := ⟨rfl, rfl, rfl, by decide +kernel, rfl, by decide +kernel, by decide +kernel⟩
theorem ok_Book_written (T : Txt K mg) : FnOk prg w K mg base (L2.CX prg w) 5 T.f_Book_written T.fd_Book_written P_Book_written (sp_Book_written T.c_Book T.c_Rule) := by
  refine Rz.Fun.okN T.F_Book_written sc_Book_written (fun vs H Q E h => ?_) (fun cdv A outer s H vs Q E hr h => ?_)
  · obtain ⟨p, l, ps, rfl, _⟩ := h
    rfl
  obtain ⟨b, t, rs, rfl, ⟨dx, ts, hb, ht, hP⟩, hg, h6, k⟩ := h
  have nd := sc_Book_written.nd
  refine ⟨_, (pss_one (ps_ret (pe_join pe_str (pe_lc (own := [("rule", 1)]) (g := (gName 1)) (tt := tYes) rfl nd (pi_tup (pe_fld (pv 0) rfl)) (blkOk_by (N := N_Book_written) (sc := defScope s_Book_written) (by decide +kernel)) (fun _ _ _ _ _ => (pg_name (i := 1) nd rfl (Or.inl rfl))) (fun _ _ _ _ _ => pts_nil) (fun _ _ _ _ _ => (pe_callTy (call_strO T.M_Rule_str (ok_Rule_str T) (hr.mono (by decide)) T.b_Rule_str) (by rfl) T.n_str (by decide +kernel) (pa_cons (pv 1) pa_nil))))))), ?_⟩
  refine ⟨⟨_, rfl⟩, _, rfl, b, _, dx, _, _, rfl, hb, T.cl_Book, T.na_Book__rules, rfl, t, rfl, ⟨_, SqT.of ht⟩, fun D hD => lc_rules (K := K) (cC := T.c_Rule) (l := t) (ts := ts) (rs := rs) (fun r => .str (ruleT r.1 r.2)) ht hP (by rw [sizeLine_eq]; omega) hD ?_ ?_⟩
  · rintro u r H2 Q2 hr2 S2 ⟨dq, eu⟩ kk
    have gl := good_len (hg r hr2)
    exact ⟨rfl, _, rfl, u, dq, _, rfl, eu, u, dq, r.1, r.2, rfl, by omega, by omega, eu, ⟨_, rfl⟩, kk _ (Same.refl _)⟩
  intro H2 S2 e2
  have e2' : rs.map (fun r => V.str (ruleT r.1 r.2)) = (rs.map fun r => ruleT r.1 r.2).map V.str := by rw [List.map_map]; rfl
  rw [e2'] at e2
  refine ⟨_, D, _, rfl, rfl, .inl (SqL.of e2), ?_, k H2 S2⟩
  have := ruleT_sum hg
  rw [List.length_map]
  show _ + _ * 1 ≤ _
  omega
end
end Rz

namespace Rz
open PySem PySem.Spec PyProof.Rows L2
/-- the line of a rule -/
def sp_read_rule (cC : Addr) : Sp := fun vs H Q _ => ∃ (l r : Str) (n : Int), vs = [.str (ruleT l r), .int n] ∧ rd l r = .good ∧ ∀ H' q, Same H H' → H q = none → RuAt cC H' q l r → Q (.ref q) H'
theorem no_colon {l r : Str} (h : rd l r = .good) : 58 ∉ l.cps.toList ∧ 58 ∉ r.cps.toList := by
  have n : 58 ∉ abc.cps.toList := by decide +kernel
  exact ⟨fun z => n (fo_in (rd_fo h).1 _ z), fun z => n (fo_in (rd_fo h).2 _ z)⟩
theorem ruleT_join (l r : Str) : ruleT l r = Txt.join ":" [l, r] := by
  have a : (ruleT l r).cps.toList = l.cps.toList ++ 58 :: r.cps.toList := by
    unfold ruleT
    show (((Str.empty.cps ++ l.cps) ++ (":" : Str).cps) ++ r.cps).toList = _
    rw [Array.toList_append, Array.toList_append, Array.toList_append]
    show ([] ++ l.cps.toList) ++ [58] ++ r.cps.toList = _
    simp
  have b : (Txt.join ":" [l, r]).cps.toList = l.cps.toList ++ 58 :: r.cps.toList := by
    have h := TL.tl_join ":" [l, r]
    rw [← TL.join_eq] at h
    exact h
  have c := a.trans b.symm
  have d : (ruleT l r).cps = (Txt.join ":" [l, r]).cps := Array.toList_inj.mp c
  generalize ruleT l r = x at d
  generalize Txt.join ":" [l, r] = y at d
  cases x
  cases y
  exact congrArg Str.mk d
theorem ruleT_split {l r : Str} (h : rd l r = .good) : Txt.split (ruleT l r) ":" = [l, r] := by
  rw [ruleT_join]
  refine TL.split_join (s := 58) (S := []) rfl (by decide +kernel) (by simp) fun p hp => ?_
  have n := no_colon h
  rcases List.mem_cons.mp hp with e | e
  · rw [e]
    exact n.1
  · have e2 : p = r := by simpa using e
    rw [e2]
    exact n.2
theorem lenS_go {K : PySem.W.Frag} {H : Hp} {Q : VK} {p : Addr} {ys : List V} (h : SqL K H p ys) (k : Q (.int (ys.length : Nat)) H) : rLenS K [V.ref p] H Q := by
  unfold rLenS
  exact ⟨p, _, rfl, h, k⟩
section
variable {w : World} {K : PySem.W.Frag} {mg : Str → Option Value} {base : Heap}
theorem sc_read_rule : FnScope N__read_rule P__read_rule (defScope s__read_rule) := ⟨rfl, rfl, rfl, by decide +kernel, rfl, by decide +kernel, by decide +kernel⟩
theorem ok_read_rule (T : Txt K mg) : FnOk prg w K mg base (L2.CX prg w) 6 T.f__read_rule T.fd__read_rule P__read_rule (sp_read_rule T.c_Rule) := by
  refine Rz.Fun.okN T.F__read_rule sc_read_rule (fun vs H Q E h => ?_) (fun cdv A outer s H vs Q E hr h => ?_)
  · obtain ⟨l, r, n, rfl, _⟩ := h
    rfl
  obtain ⟨l, r, n, rfl, hg, k⟩ := h
  have nd := sc_read_rule.nd
  obtain ⟨ds, vd, bd⟩ := bd_Rule_init_3 T
  cases vd
  refine ⟨_, (pss_cons (ps_set (i := 2) nd rfl (Or.inl rfl) (pe_split (pv 0) pe_str))
    (pss_cons (ps_if (pt_cmpR op_ne (pe_callB call_lenS (by rfl) T.n_len PySem.boot_len (pa_cons (pv 2) pa_nil)) pe_int (nomark _)) pss_never pss_nil)
    (pss_one (ps_try_no (fun pn xe tk _ => (pss_one (ps_ret (pe_mkR ⟨T.mk_Rule, T.M_Rule_init.at_, T.M_Rule_init.fn, T.kp_Rule⟩ (ok_Rule_init T) (hr.mono (by decide)) (by rfl) T.m_Rule bd .nil (passAt tk) (pa_cons (pe_ix (show IxR _ (rIxL K) from ix_list) (pv 2) pe_int (fun _ _ => rfl)) (pa_cons (pe_ix (show IxR _ (rIxL K) from ix_list) (pv 2) pe_int (fun _ _ => rfl)) pa_nil)))))))))), ?_⟩
  have gl := good_len (r := (l, r)) hg
  have tl : (ruleT l r).length ≤ 9 := ruleT_len (r := (l, r)) hg
  have l1 : l.length ≤ 4 := gl.1
  have l2 : r.length ≤ 4 := gl.2.1
  refine ⟨_, rfl, ⟨_, rfl⟩, _, _, rfl, rfl, rfl, by show (ruleT l r).length + 2 ≤ _; rw [sizeLine_eq]; omega, fun p hp => ?_⟩
  rw [ruleT_split hg]
  have S1 := Rz.Same.new (o := .lst ([l, r].map V.str)) (Same.refl H) hp
  refine ⟨_, rfl, lenS_go (SqL.of upd_same) ⟨rfl, _, rfl, ite2 (fun h => absurd h (by simp)) (fun _ => ?_)⟩⟩
  exact ⟨_, rfl, p, _, _, .str l, rfl, rfl, SqL.of upd_same, rfl, _, rfl, p, _, _, .str r, rfl, rfl, SqL.of upd_same, rfl, rule_new rfl (by omega) (by omega) hg fun H' q S hq R => k H' q (S1.trans S) (S1.free hq) R⟩
end
end Rz

namespace Rz
open PySem PySem.Spec PyProof.Rows L2
/-- the written form of good rules -/
def sp_Book_read (cB cC : Addr) : Sp := fun vs H Q _ => ∃ (rs : List Ru), vs = [.ref cB, .str (wrT rs)] ∧ GoodB rs ∧ rs.length ≤ 6 ∧ ∀ H' b t, Same H H' → H b = none → H t = none → BkAt cB cC H' b t rs → Q (.ref b) H'
theorem wrT_split {rs : List Ru} (h : GoodB rs) (n : rs ≠ []) : Txt.split (wrT rs) "\n" = rs.map fun r => ruleT r.1 r.2 := by
  unfold wrT
  refine TL.split_join (s := 10) (S := []) rfl (by decide +kernel) (by simpa using n) fun p hp => ?_
  obtain ⟨r, hr, rfl⟩ := List.mem_map.mp hp
  have g := h r hr
  have na : 10 ∉ abc.cps.toList := by decide +kernel
  rw [ruleT_join]
  have b := TL.tl_join ":" [r.1, r.2]
  rw [← TL.join_eq] at b
  rw [b]
  show 10 ∉ r.1.cps.toList ++ 58 :: r.2.cps.toList
  intro z
  rcases List.mem_append.mp z with z | z
  · exact na (fo_in (rd_fo g).1 _ z)
  · rcases List.mem_cons.mp z with z | z
    · cases z
    · exact na (fo_in (rd_fo g).2 _ z)
theorem ruleT_lenA {r : Ru} (h : rd r.1 r.2 = .good) : 2 ≤ (ruleT r.1 r.2).length := by
  have := good_len h
  unfold ruleT
  rw [Str.length_append, Str.length_append, Str.length_append]
  show 2 ≤ 0 + r.1.length + 1 + r.2.length
  omega
theorem wrT_list (rs : List Ru) : (wrT rs).cps.toList = TL.joinL [10] ((rs.map fun r => ruleT r.1 r.2).map fun y => y.cps.toList) := by
  have h := TL.tl_join "\n" (rs.map fun r => ruleT r.1 r.2)
  rw [← TL.join_eq] at h
  exact h
theorem wrT_len {rs : List Ru} (h : GoodB rs) (h6 : rs.length ≤ 6) : (wrT rs).length ≤ 1000 := by
  have a := joinL_len [10] ((rs.map fun r => ruleT r.1 r.2).map fun y => y.cps.toList)
  rw [← wrT_list] at a
  have e : (wrT rs).cps.toList.length = (wrT rs).length := Array.length_toList
  have b := ruleT_sum h
  have c : (((rs.map fun r => ruleT r.1 r.2).map fun y => y.cps.toList).map List.length) = ((rs.map fun r => ruleT r.1 r.2).map fun y => y.length) := by
    rw [List.map_map]
    rfl
  rw [c, List.length_map, List.length_map, e] at a
  have d : rs.length * [10].length = rs.length := Nat.mul_one _
  omega
theorem wrT_pos {rs : List Ru} (h : GoodB rs) (n : rs ≠ []) : 0 < (wrT rs).length := by
  match rs, n with
  | [r], _ =>
    have g := ruleT_lenA (h r List.mem_cons_self)
    have e := congrArg List.length (wrT_list [r])
    have e1 : (wrT [r]).cps.toList.length = (wrT [r]).length := Array.length_toList
    have e2 : (TL.joinL [10] (([r].map fun r => ruleT r.1 r.2).map fun y => y.cps.toList)).length = (ruleT r.1 r.2).length := Array.length_toList
    omega
  | r :: q :: rs, _ =>
    have g := ruleT_lenA (h r List.mem_cons_self)
    have e := congrArg List.length (wrT_list (r :: q :: rs))
    have e1 : (wrT (r :: q :: rs)).cps.toList.length = (wrT (r :: q :: rs)).length := Array.length_toList
    have e2 : (ruleT r.1 r.2).length ≤ (TL.joinL [10] (((r :: q :: rs).map fun r => ruleT r.1 r.2).map fun y => y.cps.toList)).length := by
      show _ ≤ ((ruleT r.1 r.2).cps.toList ++ _).length
      rw [List.length_append, Array.length_toList]
      exact Nat.le_add_right _ _
    omega
section
variable {w : World} {K : PySem.W.Frag} {mg : Str → Option Value} {base : Heap}
theorem sc_Book_read : FnScope N_Book_read P_Book_read (defScope s_Book_read) := ⟨rfl, rfl, rfl, by decide +kernel, rfl, by decide +kernel, by decide +kernel⟩
theorem ok_Book_read (T : Txt K mg) : FnOk prg w K mg base (L2.CX prg w) 8 T.f_Book_read T.fd_Book_read P_Book_read (sp_Book_read T.c_Book T.c_Rule) := by
  refine Rz.Fun.okN T.F_Book_read sc_Book_read (fun vs H Q E h => ?_) (fun cdv A outer s H vs Q E hr h => ?_)
  · obtain ⟨rs, rfl, _⟩ := h
    rfl
  obtain ⟨rs, rfl, hg, h6, k⟩ := h
  have nd := sc_Book_read.nd
  have mk : Mk K T.c_Book T.f_Book_init := ⟨T.mk_Book, T.M_Book_init.at_, T.M_Book_init.fn, T.kp_Book⟩
  refine ⟨_, (pss_cons (ps_set (i := 2) nd rfl (Or.inl rfl) (pe_fn (ok_decoded T) (hr.mono (by decide)) (by rfl) T.m_decoded T.F_decoded.kp T.b_decoded .nil (fun _ => atN _) (pa_cons (pv 1) pa_nil)))
    (pss_cons (ps_if (pt_not (pt_truth (pv 2) (by intro _; rfl))) (pss_one (ps_ret (pe_mkSL0 (i := 0) mk (ok_Book_init T) (hr.mono (by decide)) rfl (Or.inl rfl) (fun _ => atN _)))) pss_nil)
    (pss_cons (ps_set (i := 3) nd rfl (Or.inl rfl) (pe_split (pv 2) pe_str))
    (pss_cons (ps_setLc (i := 6) (own := [("number", 4), ("line", 5)]) (g := gTup K 2 (gCons (gName 4) (gCons (gName 5) gNil))) (tt := tYes) rfl nd rfl rfl (sw_true rfl rfl rfl (by decide +kernel)) (pi_enumF (by rfl) T.n_enumerate (pa_cons (pv 3) pa_nil) (pk_cons pe_int pk_nil)) (blkOk_by (N := N_Book_read) (sc := defScope s_Book_read) (by decide +kernel)) (fun _ _ _ _ _ => (pg_tup rfl (pgs_cons (pg_name (i := 4) nd rfl (Or.inl rfl)) (pgs_cons (pg_name (i := 5) nd rfl (Or.inl rfl)) pgs_nil)))) (fun _ _ _ _ _ => pts_nil) (fun _ _ _ _ _ => (pe_fn (ok_read_rule T) (hr.mono (by decide)) (by rfl) T.m__read_rule T.F__read_rule.kp T.b__read_rule .nil (fun _ => atN _) (pa_cons (pv 5) (pa_cons (pv 4) pa_nil)))))
    (pss_one (ps_ret (pe_mkSLs (i := 0) mk (ok_Book_init T) (hr.mono (by decide)) rfl (Or.inl rfl) (fun _ => atN _) (pv 6)))))))), ?_⟩
  have wl := wrT_len hg h6
  refine ⟨_, rfl, wrT rs, rfl, _, rfl, _, ⟨by rw [sizeLine_eq]; omega, rfl⟩, ?_⟩
  show if (!(((wrT rs).length : Int) != 0)) = true then _ else _
  by_cases e0 : rs = []
  · subst e0
    refine ite2 (fun _ => ?_) (fun h => absurd (show (!(((wrT []).length : Int) != 0)) = true from rfl) h)
    exact ⟨rfl, book_new (ts := []) rfl (Nat.zero_le _) .nil k⟩
  have wp := wrT_pos hg e0
  refine ite2 (fun h => absurd h (by
    have q : (((wrT rs).length : Int) != 0) = true := by
      have : ¬ ((wrT rs).length : Int) = 0 := by omega
      simpa using this
    rw [q]
    decide)) (fun _ => ?_)
  refine ⟨_, rfl, ⟨_, rfl⟩, _, _, rfl, rfl, rfl, by rw [sizeLine_eq]; omega, fun p hp => ?_⟩
  rw [wrT_split hg e0]
  have S1 := Rz.Same.new (o := .lst ((rs.map fun r => ruleT r.1 r.2).map V.str)) (Same.refl H) hp
  have e1 : upd H p (.lst ((rs.map fun r => ruleT r.1 r.2).map V.str)) p = some (.lst ((rs.map fun r => ruleT r.1 r.2).map V.str)) := upd_same
  generalize upd H p (.lst ((rs.map fun r => ruleT r.1 r.2).map V.str)) = H1 at S1 e1
  have hlen : (((rs.map fun r => ruleT r.1 r.2).map V.str)).length = rs.length := by rw [List.length_map, List.length_map]
  refine ⟨_, rfl, p, _, 1, rfl, rfl, by decide, by decide, SqL.of e1, fun D hD => lc_it (walk_enumF (k := 1) (xs := (rs.map fun r => ruleT r.1 r.2).map V.str)) (fun i H3 => Same H1 H3 ∧ ∃ ts : List Addr, H3 D = some (.lst (ts.map V.ref)) ∧ RuL T.c_Rule H3 ts (rs.take i))
    ⟨Rz.Same.new (Same.refl H1) hD, [], upd_same, .nil⟩ (fun i H3 _ h => SqL.of (h.1 _ _ e1)) ?_ ?_⟩
  · rintro i x H3 H4 hi ⟨S3, ts, e3, P3⟩ ⟨Tp, y, rfl, hT, rfl, hy⟩
    have hi2 : i < rs.length := by
      rw [hlen] at hi
      exact hi
    have hy2 : y = .str (ruleT rs[i].1 rs[i].2) := by
      rw [List.getElem?_map, List.getElem?_map, List.getElem?_eq_getElem hi2] at hy
      exact (Option.some.inj hy).symm
    subst hy2
    have S34 := Rz.Same.new (o := .tup [.int (1 + (i : Nat)), .str (ruleT rs[i].1 rs[i].2)]) (Same.refl H3) hT
    refine ⟨Tp, _, rfl, SqT.of upd_same, rfl, _, _, rfl, _, _, rfl, rfl, rfl, yesT ⟨_, rfl, _, rfl, _, _, _, rfl, hg _ (List.getElem_mem hi2), fun H5 q S5 hq R5 => ?_⟩⟩
    have e5 := S5 _ _ (S34 _ _ e3)
    have lt := P3.len
    rw [List.length_take] at lt
    refine ⟨_, e5, by rw [List.length_map, sizeLine_eq]; omega, Rz.Same.upd ((S3.trans S34).trans S5) hD, ts ++ [q], by rw [upd_same, List.map_append]; rfl, ?_⟩
    have P5 : RuL T.c_Rule H5 (ts ++ [q]) (rs.take (i + 1)) := by
      rw [List.take_add_one, List.getElem?_eq_getElem hi2]
      exact RuL.append (P3.same (S34.trans S5)) (.cons R5 .nil)
    refine P5.but ((But.refl [D] H5).upd (.inl (by simp))) fun x hx dq l r e => ?_
    have ex : x = D := by simpa using hx
    rw [ex, e5] at e
    cases e
  · rintro H3 ⟨S3, ts, e3, P3⟩
    rw [hlen, List.take_length] at P3
    refine ⟨rfl, _, rfl, D, _, rfl, .inr (SqL.of e3), book_new rfl h6 P3 fun H' b t S hb ht B => k H' b t ((S1.trans S3).trans S) ((S1.trans S3).free hb) ((S1.trans S3).free ht) B⟩
end
end Rz

namespace Rz
open PySem PySem.Spec PyProof.Rows L2
/-! ### the steps of a row: number and place -/
def stepsIn (cs : List Nat) (rs : List Ru) (i : Nat) : Nat → List (Nat × Nat)
  | 0 => []
  | j + 1 => stepsIn cs rs i j ++ (match rs[j]? with
    | some r => if fitAt cs r.1.cps.toList (i : Int) = true then [(j, i)] else []
    | none => [])
def stepsTo (cs : List Nat) (rs : List Ru) : Nat → List (Nat × Nat)
  | 0 => []
  | i + 1 => stepsTo cs rs i ++ stepsIn cs rs i rs.length
theorem stepsIn_len (cs : List Nat) (rs : List Ru) (i : Nat) : ∀ j, (stepsIn cs rs i j).length ≤ j
  | 0 => Nat.le_refl 0
  | j + 1 => by
    have ih := stepsIn_len cs rs i j
    unfold stepsIn
    rw [List.length_append]
    split
    · split
      · show _ + 1 ≤ _
        omega
      · show _ + 0 ≤ _
        omega
    · show _ + 0 ≤ _
      omega
theorem stepsTo_len (cs : List Nat) (rs : List Ru) : ∀ i, (stepsTo cs rs i).length ≤ i * rs.length
  | 0 => Nat.zero_le _
  | i + 1 => by
    have ih := stepsTo_len cs rs i
    have h := stepsIn_len cs rs i rs.length
    unfold stepsTo
    rw [List.length_append, Nat.succ_mul]
    omega
theorem stepsIn_mem {cs : List Nat} {rs : List Ru} {i : Nat} : ∀ {j : Nat} {q : Nat × Nat}, q ∈ stepsIn cs rs i j → q.2 = i ∧ q.1 < j ∧ ∃ r, rs[q.1]? = some r ∧ fitAt cs r.1.cps.toList (i : Int) = true
  | 0, q, h => by cases h
  | j + 1, q, h => by
    unfold stepsIn at h
    rcases List.mem_append.mp h with h | h
    · obtain ⟨a, b, c⟩ := stepsIn_mem h
      exact ⟨a, by omega, c⟩
    · cases e : rs[j]? with
      | none =>
        rw [e] at h
        cases h
      | some r =>
        rw [e] at h
        dsimp only at h
        by_cases f : fitAt cs r.1.cps.toList (i : Int) = true
        · rw [if_pos f] at h
          have z : q = (j, i) := by simpa using h
          rw [z]
          exact ⟨rfl, Nat.lt_succ_self _, r, e, f⟩
        · rw [if_neg f] at h
          cases h
theorem stepsTo_mem {cs : List Nat} {rs : List Ru} : ∀ {i : Nat} {q : Nat × Nat}, q ∈ stepsTo cs rs i → q.2 < i ∧ q.1 < rs.length ∧ ∃ r, rs[q.1]? = some r ∧ fitAt cs r.1.cps.toList (q.2 : Int) = true
  | 0, q, h => by cases h
  | i + 1, q, h => by
    unfold stepsTo at h
    rcases List.mem_append.mp h with h | h
    · obtain ⟨a, b, c⟩ := stepsTo_mem h
      exact ⟨by omega, b, c⟩
    · obtain ⟨a, b, r, c, d⟩ := stepsIn_mem h
      exact ⟨by omega, b, r, c, by rw [a]; exact d⟩
/-! pairs of numbers -/
def prN (q : Nat × Nat) : List V := [.int (q.1 : Nat), .int (q.2 : Nat)]
def NpL (H : Hp) (ts : List Addr) (qs : List (Nat × Nat)) : Prop := Paired (fun (t : Addr) (q : Nat × Nat) => H t = some (.tup (prN q))) ts qs
theorem NpL.keep {H H' : Hp} (h : Tups H H') : ∀ {ts : List Addr} {qs : List (Nat × Nat)}, NpL H ts qs → NpL H' ts qs
  | _, _, .nil => .nil
  | _, _, .cons e r => .cons (h _ _ e) (NpL.keep h r)
theorem NpL.len {H : Hp} {ts : List Addr} {qs : List (Nat × Nat)} (h : NpL H ts qs) : ts.length = qs.length := Paired.length h
theorem NpL.append {H : Hp} : ∀ {ts us : List Addr} {qs zs : List (Nat × Nat)}, NpL H ts qs → NpL H us zs → NpL H (ts ++ us) (qs ++ zs)
  | _, _, _, _, .nil, s => s
  | _, _, _, _, .cons e t, s => .cons e (NpL.append t s)
theorem NpL.get {H : Hp} : ∀ {ts : List Addr} {qs : List (Nat × Nat)} {i : Nat} {t : Addr}, NpL H ts qs → ts[i]? = some t → ∃ q, qs[i]? = some q ∧ H t = some (.tup (prN q))
  | _, _, i, t, .nil, h => by cases h
  | _, _, 0, t, .cons e r, h => by
    have z := Option.some.inj h
    subst z
    exact ⟨_, rfl, e⟩
  | _, _, i + 1, t, .cons e r, h => NpL.get (i := i) r (by simpa using h)
def NAt (H : Hp) (l : Addr) (qs : List (Nat × Nat)) : Prop := ∃ ts : List Addr, H l = some (.lst (ts.map V.ref)) ∧ NpL H ts qs
theorem NAt.same {H H' : Hp} {l : Addr} {qs : List (Nat × Nat)} (S : Same H H') (a : NAt H l qs) : NAt H' l qs := let ⟨ts, h1, h2⟩ := a; ⟨ts, S _ _ h1, h2.keep (.of S)⟩
theorem NAt.but {D : List Addr} {H H' : Hp} {l : Addr} {qs : List (Nat × Nat)} (a : NAt H l qs) (B : But D H H') (n : l ∉ D) (t : Tups H H') : NAt H' l qs := let ⟨ts, h1, h2⟩ := a; ⟨ts, B.at h1 n, h2.keep t⟩
abbrev dNp (q : Nat × Nat) : PyData := .tuple [.int (q.1 : Nat), .int (q.2 : Nat)]
abbrev dNps (qs : List (Nat × Nat)) : PyData := .list (qs.map dNp)
theorem nps_all {K : PySem.W.Frag} {H : Hp} : ∀ {ts : List Addr} {qs : List (Nat × Nat)}, NpL H ts qs → DpAll K H (ts.map V.ref) (qs.map dNp)
  | _, _, .nil => .nil
  | _, _, .cons e r => .cons (.tup (SqT.of e) (.cons (.int _) (.cons (.int _) .nil))) (nps_all r)
theorem nps_at {K : PySem.W.Frag} {H : Hp} {l : Addr} {qs : List (Nat × Nat)} (h : NAt H l qs) : Dp K H (.ref l) (dNps qs) := let ⟨_, h1, h2⟩ := h; .lst (SqL.of h1) (nps_all h2)
theorem nps_lay : ∀ qs : List (Nat × Nat), PyData.canLayAll0 (qs.map dNp) = true
  | [] => by simp [PyData.canLayAll0]
  | q :: qs => by
    have ih := nps_lay qs
    simp [PyData.canLayAll0, PyData.canLay0, ih]
theorem nps_depth : ∀ qs : List (Nat × Nat), PyData.depthAll (qs.map dNp) ≤ 1
  | [] => by simp [PyData.depthAll]
  | q :: qs => by
    have ih := nps_depth qs
    have e : PyData.depth (dNp q) ≤ 1 := by simp [PyData.depth, PyData.depthAll]
    simp only [List.map_cons, PyData.depthAll]
    exact Nat.max_le.mpr ⟨e, ih⟩
theorem nps_shaped (qs : List (Nat × Nat)) : SeqAt.shaped (dNps qs) = true := by
  have a := nps_lay qs
  have d : PyData.depth (dNps qs) ≤ 64 := by
    have h := nps_depth qs
    show PyData.depthAll (qs.map dNp) + 1 ≤ 64
    omega
  show (PyData.canLayAll0 (qs.map dNp) && decide (PyData.depth (dNps qs) ≤ 64)) = true
  rw [a, decide_eq_true d]
  rfl
def sp_Book_steps (cB cR cC : Addr) : SpG := fun vs H Q _ => ∃ (b t p m : Addr) (rs : List Ru) (ps : List Pr), vs = [.ref b, .ref p] ∧ BkAt cB cC H b t rs ∧ GoodB rs ∧ rs.length ≤ 6 ∧ RAt cR H p m ps ∧ ps.length ≤ 10000 ∧
  ∀ H' ts, Same H H' → NpL H' ts (stepsTo (ps.map (·.1)) rs ps.length) → Q (ts.map V.ref) H'
section
variable {w : World} {K : PySem.W.Frag} {mg : Str → Option Value} {base : Heap}
theorem sc_Book_steps : GScope N_Book_steps P_Book_steps (defScope s_Book_steps) := ⟨rfl, rfl, rfl, by decide +kernel, rfl, by decide +kernel, by decide +kernel⟩
theorem ok_Book_steps (T : Txt K mg) : GFn prg w K mg base 6 T.f_Book_steps T.fd_Book_steps P_Book_steps (sp_Book_steps T.c_Book T.c_Row T.c_Rule) := by
  refine gfn_by T.F_Book_steps sc_Book_steps (fun vs H Q E h => ?_) (fun cdv A outer s H vs Q E pn hr h => ?_)
  · obtain ⟨b, t, p, m, rs, ps, rfl, _⟩ := h
    rfl
  obtain ⟨b, t, p, m, rs, ps, rfl, hB, hg, h6, hR, hz, k⟩ := h
  have nd := sc_Book_steps.nd
  refine ⟨_, (gss_cons (gs_ps (ps_set (i := 2) nd rfl (Or.inl rfl) (pe_pr (pv 1) T.cl_Row T.M_Row_signs (ok_Row_signs T) (hr.mono (by decide)) T.b_Row_signs passN)))
    (gss_one (gs_for owns_gcx rfl (pi_range1 rfl T.n_range (pa_cons (pe_callB call_len_str (by rfl) T.n_len PySem.boot_len (pa_cons (pv 2) pa_nil)) pa_nil)) (pg_name (i := 3) nd rfl (Or.inl rfl))
      (gss_one (gs_for owns_gcx rfl (pi_enumT (by rfl) T.n_enumerate (pa_cons (pe_fld (pv 0) rfl) pa_nil)) (pg_tup rfl (pgs_cons (pg_name (i := 4) nd rfl (Or.inl rfl)) (pgs_cons (pg_name (i := 5) nd rfl (Or.inl rfl)) pgs_nil)))
        (gss_one (gs_if (pt_val (pe_fn (ok_fits T) (hr.mono (by decide)) (by rfl) T.m__fits T.F__fits.kp T.b__fits .nil (fun _ => atN _) (pa_cons (pv 5) (pa_cons (pv 2) (pa_cons (pv 3) pa_nil))))) (gss_one (gs_yield (pe_tup (pa_cons (pv 4) (pa_cons (pv 3) pa_nil))))) gss_nil))))))), ?_⟩
  obtain ⟨dx, hp, hL⟩ := id hR
  obtain ⟨db, tb, hb, ht, hP⟩ := id hB
  have two : (2 : Nat) ≤ sizeLine := by decide
  have lt : (tx ps).length = ps.length := by
    show (ps.map (·.1)).toArray.size = _
    rw [List.size_toArray, List.length_map]
  have lP := hP.len
  refine ⟨_, rfl, p, dx, _, rfl, hp, p, m, ps, rfl, hR, by omega, fun H1 S1 => ?_⟩
  refine ⟨_, rfl, tx ps, rfl, by rw [lt, sizeLine_eq]; omega, ((tx ps).length : Nat), rfl, by omega, by rw [lt]; omega, ?_⟩
  rw [Int.toNat_natCast, lt]
  refine gfor_it walk_range (fun i ys σ' H' => ∃ (ts : List Addr) (v3 v4 v5 : Option V), ys = ts.map V.ref ∧ σ' = [some (.ref b), some (.ref p), some (.str (tx ps)), v3, v4, v5] ∧ Same H1 H' ∧ NpL H' ts (stepsTo (ps.map (·.1)) rs i)) ⟨[], none, none, none, rfl, rfl, Same.refl H1, .nil⟩ (fun _ _ _ _ _ _ => True.intro) ?_ ?_
  · rintro i x ys σ' H2 H3 hi ⟨ts, v3, v4, v5, rfl, rfl, S2, N2⟩ ⟨rfl, rfl⟩
    have S12 := S1.trans S2
    have xl : (((tb.map V.ref)).length) = rs.length := by rw [List.length_map, lP]
    refine ⟨_, rfl, b, _, db, _, _, rfl, S12 _ _ hb, T.cl_Book, T.na_Book__rules, rfl, t, _, rfl, SqT.of (S12 _ _ ht), ?_⟩
    refine gfor_it (walk_enumT (xs := tb.map V.ref)) (fun j ys σ' H' => ∃ (us : List Addr) (v4 v5 : Option V), ys = us.map V.ref ∧ σ' = [some (.ref b), some (.ref p), some (.str (tx ps)), some (.int (0 + (i : Nat))), v4, v5] ∧ Same H1 H' ∧ NpL H' us (stepsTo (ps.map (·.1)) rs i ++ stepsIn (ps.map (·.1)) rs i j)) ⟨ts, v4, v5, rfl, rfl, S2, by rw [show stepsIn (ps.map (·.1)) rs i 0 = [] from rfl, List.append_nil]; exact N2⟩ (fun _ ys σ' H' _ h => ?_) ?_ ?_
    · obtain ⟨us, _, _, _, _, S, _⟩ := h
      exact SqT.of ((S1.trans S) _ _ ht)
    · rintro j v ys σ' H4 H5 hj ⟨us, w4, w5, rfl, rfl, S4, N4⟩ ⟨Tp, y, rfl, hT, rfl, hy⟩
      rw [xl] at hj
      obtain ⟨q, hq, rfl⟩ := refs_get hy
      obtain ⟨r, hr1, hr2⟩ := hP.get hq
      have S5 := Rz.Same.new (o := .tup [.int (j : Nat), .ref q]) (Same.refl H4) hT
      have S15 := (S1.trans S4).trans S5
      have gd := hg r (List.mem_of_getElem? hr1)
      obtain ⟨_, _, l1, _, _⟩ := rd_good gd
      refine ⟨Tp, _, rfl, SqT.of upd_same, rfl, _, _, rfl, _, _, rfl, rfl, ?_⟩
      refine ⟨_, rfl, _, rfl, _, rfl, q, r.1, r.2, tx ps, (0 + (i : Nat) : Int), rfl, hr2.same S15, str_ne l1, _, rfl, ?_⟩
      have e0 : (0 + (i : Nat) : Int) = ((i : Nat) : Int) := by omega
      show if fitAt (ps.map (·.1)) r.1.cps.toList (0 + (i : Nat) : Int) = true then _ else _
      cases hf : fitAt (ps.map (·.1)) r.1.cps.toList (0 + (i : Nat) : Int) with
      | true =>
        refine iteT ?_
        have zl := stepsTo_len (ps.map (·.1)) rs i
        have z2 := stepsIn_len (ps.map (·.1)) rs i j
        have ln := N4.len
        have zm : i * rs.length ≤ 10000 * 6 := Nat.mul_le_mul (by omega) h6
        rw [List.length_append] at ln
        refine ⟨by rw [List.length_map, sizeLine_eq]; omega, ?_⟩
        refine ⟨_, rfl, _, rfl, two, fun u hu => ?_⟩
        have S6 := Rz.Same.new (o := .tup [.int (j : Nat), .int (0 + (i : Nat))]) S5 hu
        refine ⟨us ++ [u], _, _, by rw [List.map_append]; rfl, rfl, S4.trans S6, ?_⟩
        have es : stepsIn (ps.map (·.1)) rs i (j + 1) = stepsIn (ps.map (·.1)) rs i j ++ [(j, i)] := by
          show _ ++ _ = _
          rw [hr1]
          dsimp only
          rw [← e0, if_pos hf]
        rw [es, ← List.append_assoc]
        refine (N4.keep (.of S6)).append (.cons ?_ .nil)
        rw [upd_same]
        show some (HO.tup [.int (j : Nat), .int (0 + (i : Nat))]) = some (.tup [.int (j : Nat), .int (i : Nat)])
        rw [e0]
      | false =>
        refine iteF ?_
        refine ⟨us, _, _, rfl, rfl, S4.trans S5, ?_⟩
        have es : stepsIn (ps.map (·.1)) rs i (j + 1) = stepsIn (ps.map (·.1)) rs i j := by
          show _ ++ _ = _
          rw [hr1]
          dsimp only
          rw [← e0, if_neg (by rw [hf]; decide), List.append_nil]
        rw [es]
        exact N4.keep (.of S5)
    · rintro ys σ' H4 ⟨us, w4, w5, rfl, rfl, S4, N4⟩
      rw [xl] at N4
      exact ⟨us, _, _, _, rfl, rfl, S4, N4⟩
  · rintro ys σ' H2 ⟨ts, v3, v4, v5, rfl, rfl, S2, N2⟩
    exact k H2 ts (S1.trans S2) N2
end
end Rz

namespace Rz
open PySem PySem.Spec PyProof.Rows L2
/-- the base of the powers -/
def baseR (rs : List Ru) : Int := longR rs + 1
theorem long_range {rs : List Ru} (h : GoodB rs) : 0 ≤ longR rs ∧ longR rs ≤ 4 := by
  refine ⟨fold_pos, fold_least (fun y hy => ?_) (by decide)⟩
  obtain ⟨r, hr, rfl⟩ := List.mem_map.mp hy
  have := good_len (h r hr)
  omega
def powsR (rs : List Ru) (n : Nat) : List Int := (List.range n).map fun i => baseR rs ^ i
def sp_Book_powers (cB cC : Addr) : Sp := fun vs H Q _ => ∃ (b t : Addr) (rs : List Ru), vs = [.ref b] ∧ BkAt cB cC H b t rs ∧ GoodB rs ∧ rs.length ≤ 6 ∧ ∀ H' q, Same H H' → H' q = some (.lst ((powsR rs 10).map V.int)) → Q (.ref q) H'
section
variable {w : World} {K : PySem.W.Frag} {mg : Str → Option Value} {base : Heap}
theorem sc_Book_powers : FnScope N_Book_powers P_Book_powers (defScope s_Book_powers) := ⟨rfl, rfl, rfl, by decide +kernel, rfl, by decide +kernel, by decide +kernel⟩
theorem ok_Book_powers (T : Txt K mg) : FnOk prg w K mg base (L2.CX prg w) 4 T.f_Book_powers T.fd_Book_powers P_Book_powers (sp_Book_powers T.c_Book T.c_Rule) := by
  refine Rz.Fun.okN T.F_Book_powers sc_Book_powers (fun vs H Q E h => ?_) (fun cdv A outer s H vs Q E hr h => ?_)
  · obtain ⟨b, t, rs, rfl, _⟩ := h
    rfl
  obtain ⟨b, t, rs, rfl, hB, hg, h6, k⟩ := h
  have nd := sc_Book_powers.nd
  refine ⟨_, (pss_cons (ps_set (i := 1) nd rfl (Or.inr rfl) (pe_op op_add (pe_pr (pv 0) T.cl_Book T.M_Book_longest (ok_Book_longest T) (hr.mono (by decide)) T.b_Book_longest passN) pe_int))
    (pss_one (ps_ret (pe_lc (own := [("power", 2)]) (g := (gName 2)) (tt := tYes) rfl nd (pi_range1 rfl T.n_range (pa_cons pe_int pa_nil)) (blkOk_by (N := N_Book_powers) (sc := defScope s_Book_powers) (by decide +kernel)) (fun _ _ _ _ _ => (pg_name (i := 2) nd rfl (Or.inl rfl))) (fun _ _ _ _ _ => pts_nil) (fun _ _ _ _ _ => (pe_op op_pow (pv 1) (pv 2))))))), ?_⟩
  obtain ⟨db, tb, hb, ht, hP⟩ := id hB
  obtain ⟨l0, l4⟩ := long_range hg
  refine ⟨_, rfl, b, db, _, rfl, hb, b, t, rs, rfl, hB, hg, h6, fun H1 S1 => ⟨_, _, rfl, rfl, ?_⟩⟩
  refine ⟨10, rfl, by decide, by decide, fun D hDn => lc_range (lo := 0) (n := 10) (fun i H' => Same H1 H' ∧ H' D = some (.lst ((powsR rs i).map V.int))) ⟨Rz.Same.new (Same.refl H1) hDn, upd_same⟩ ?_ ?_⟩
  · rintro i H2 hi ⟨S2, e2⟩
    refine ⟨rfl, yesT ⟨_, rfl, _, rfl, _, _, rfl, rfl, ⟨by omega, by omega, by omega⟩, _, e2, ?_, Rz.Same.upd S2 hDn, ?_⟩⟩
    · unfold powsR
      rw [List.length_map, List.length_map, List.length_range, sizeLine_eq]
      omega
    · rw [upd_same]
      unfold powsR
      rw [List.range_succ, List.map_append, List.map_append]
      show some (HO.lst (_ ++ [V.int ((longR rs + 1) ^ ((0 + (i : Nat) : Int)).toNat)])) = some (.lst (_ ++ [V.int (baseR rs ^ i)]))
      rw [show ((0 + (i : Nat) : Int)).toNat = i by omega]
      rfl
  · rintro H2 ⟨S2, e2⟩
    exact k H2 D (S1.trans S2) e2
end
end Rz

namespace Rz
open PySem PySem.Spec PyProof.Rows L2
/-- the weight within the bound b -/
def wtL (B b : Int) (ps : List Pr) : List Int := ps.map fun p => B ^ (b - p.2).toNat
def wt (B b : Int) (ps : List Pr) : Int := (wtL B b ps).sum
theorem pows_at {rs : List Ru} {n : Nat} (h : n < 10) : ((powsR rs 10).map V.int)[n]? = some (.int (baseR rs ^ n)) := by
  unfold powsR
  rw [List.getElem?_map, List.getElem?_map, List.getElem?_range h]
  rfl
def sp_Book_weight (cV cH cB cR cC : Addr) : Sp := fun vs H Q E => ∃ (b t p m : Addr) (rs : List Ru) (ps : List Pr) (most : Int), vs = [.ref b, .ref p, .int most] ∧ BkAt cB cC H b t rs ∧ GoodB rs ∧ rs.length ≤ 6 ∧ RAt cR H p m ps ∧ GoodR ps ∧ ps.length ≤ 10000 ∧ most.natAbs < 2 ^ 60 ∧
  (¬ (0 ≤ most ∧ most ≤ 9) → ∀ H' d, Same H H' → H d = none → H' d = some (.xd [("most", .int most)]) → E (.ref cV) (some d) H') ∧
  (0 ≤ most ∧ most ≤ 9 → (most < mostH ps → ∀ H' d, Same H H' → H d = none → H' d = some (.xd [("height", .int (mostH ps))]) → E (.ref cH) (some d) H') ∧
    (¬ most < mostH ps → ∀ H', Same H H' → Q (.int (wt (baseR rs) most ps)) H'))
theorem hts_nth {ps : List Pr} {i : Nat} {q : Pr} (h : ps[i]? = some q) : ((hts ps).map V.int)[i]? = some (.int q.2) := by
  unfold hts
  rw [List.getElem?_map, List.getElem?_map, h]
  rfl
theorem most_range {ps : List Pr} (g : GoodR ps) : 0 ≤ mostH ps ∧ mostH ps ≤ 9 ∧ ∀ p ∈ ps, p.2 ≤ mostH ps ∧ 0 ≤ p.2 := by
  refine ⟨fold_pos, fold_least (fun y hy => ?_) (by decide), fun p hp => ⟨fold_above (List.mem_map.mpr ⟨p, hp, rfl⟩), (g p hp).2.1⟩⟩
  obtain ⟨p, hp, rfl⟩ := List.mem_map.mp hy
  exact (g p hp).2.2
section
variable {w : World} {K : PySem.W.Frag} {mg : Str → Option Value} {base : Heap}
theorem kb_weight (T : Txt K mg) : KBn K T.fd_Book_weight P_Book_weight 2 ["most"] (fun us ws => us ++ ws) (fun vs zs => vs ++ zs) :=
  kbF T.F_Book_weight 2 ["most"] fun _ _ _ _ _ _ us ws h1 h2 => match us, ws, h1, h2 with | [_, _], [_], _, _ => rfl
theorem sc_Book_weight : FnScope N_Book_weight P_Book_weight (defScope s_Book_weight) := ⟨rfl, rfl, rfl, by decide +kernel, rfl, by decide +kernel, by decide +kernel⟩
theorem ok_Book_weight (T : Txt K mg) : FnOk prg w K mg base (L2.CX prg w) 8 T.f_Book_weight T.fd_Book_weight P_Book_weight (sp_Book_weight T.c_BadBound T.c_BadHeight T.c_Book T.c_Row T.c_Rule) := by
  refine T.F_Book_weight.okX sc_Book_weight (fun vs H Q E h => ?_) (fun cdv A outer s H vs Q E hr h => ?_)
  · obtain ⟨b, t, p, m, rs, ps, most, rfl, _⟩ := h
    rfl
  obtain ⟨b, t, p, m, rs, ps, most, rfl, hB, hg, h6, hR, gR, hz, hm, kV, kk⟩ := h
  have nd := sc_Book_weight.nd
  obtain ⟨tG, k_GREATEST_HEIGHT⟩ := T.k_GREATEST_HEIGHT
  have tk : Takes (cxOf (L2.CX prg w) prg w K mg base N_Book_weight "Book.weight" (defScope s_Book_weight) T.f_Book_weight cdv A outer s H E) (fun cls d _ H' => E cls d H') := takes_of rfl rfl rfl rfl
  refine ⟨_, (pss_cons (ps_expr (pe_fn (ok_check_bound T) (hr.mono (by decide)) (by rfl) T.m_check_bound T.F_check_bound.kp T.b_check_bound .nil (passAt tk) (pa_cons (pv 2) (pa_cons (pe_glob (v := .int 9) (by rfl) k_GREATEST_HEIGHT ⟨_, rfl⟩) pa_nil))))
    (pss_cons (ps_set (i := 3) nd rfl (Or.inl rfl) (pe_callB (call_absO T.M_Row_abs (ok_Row_abs T) (hr.mono (by decide)) T.b_Row_abs) (by rfl) T.n_abs (by decide +kernel) (pa_cons (pv 1) pa_nil)))
    (pss_cons (ps_if (pt_cmpR op_gt (pv 3) (pv 2) (nomark _)) (pss_one (ps_raise rfl tk (pmk_oex T.o_BadHeight T.i_BadHeight T.t_BadHeight (ok_BadHeight_init T) (hr.mono (by decide)) T.b_BadHeight_init .nil passN (by rfl) T.m_BadHeight (pa_cons (pv 3) pa_nil)))) pss_nil)
    (pss_cons (ps_set (i := 4) nd rfl (Or.inr rfl) (pe_mt0 (pv 0) T.cl_Book T.M_Book_powers (ok_Book_powers T) (hr.mono (by decide)) T.b_Book_powers .nil (fun _ => atN _)))
    (pss_one (ps_ret (pe_callB (cr_sum (by rfl)) (by rfl) T.n_sum (by decide +kernel) (pa_cons (pe_lc (own := [("height", 5)]) (g := (gName 5)) (tt := tYes) rfl nd (pi_list (pe_pr (pv 1) T.cl_Row T.M_Row_heights (ok_Row_heights T) (hr.mono (by decide)) T.b_Row_heights passN)) (blkOk_by (N := N_Book_weight) (sc := defScope s_Book_weight) (by decide +kernel)) (fun _ _ _ _ _ => (pg_name (i := 5) nd rfl (Or.inl rfl))) (fun _ _ _ _ _ => pts_nil) (fun _ _ _ _ _ => (pe_ix (show IxR _ (rIxL K) from ix_list) (pv 4) (pe_op op_sub (pv 2) (pv 5)) (fun _ _ => rfl)))) pa_nil)))))))), ?_⟩
  obtain ⟨db, tb, hb, ht, hP⟩ := id hB
  obtain ⟨dx, hp, hL⟩ := id hR
  obtain ⟨m0, m9, mall⟩ := most_range gR
  refine ⟨_, rfl, most, 9, rfl, by omega, fun hin => ?_, fun hout => kV hout⟩
  obtain ⟨kH, kw⟩ := kk hin
  refine ⟨_, rfl, p, dx, _, rfl, hp, p, m, ps, rfl, hR, by omega, gR, fun H1 S1 => ?_⟩
  refine ⟨_, rfl, _, rfl, _, _, rfl, rfl, _, rfl, ite2 (fun h => ?_) (fun h => ?_)⟩
  · exact ⟨_, rfl, by show 1 ≤ 1000; decide, raise_fld (C := T.c_BadHeight) (fld := "height") (n := mostH ps) (H1 := H1) (Q := E) (log_small (k := 64) (by omega) (by decide)) fun H2 d S2 hd e => kH (of_decide_eq_true h) H2 d (S1.trans S2) (S1.free hd) e⟩
  have hnf : ¬ most < mostH ps := fun z => h (decide_eq_true z)
  refine ⟨_, rfl, b, db, _, rfl, S1 _ _ hb, rfl, b, t, rs, rfl, hB.same S1, hg, h6, fun H2 q S2 e2 => ?_⟩
  have S12 := S1.trans S2
  refine ⟨_, rfl, p, dx, _, rfl, S12 _ _ hp, p, m, ps, rfl, hR.same S12, by omega, fun H3 dh S3 hdh eh => ?_⟩
  have e3 := S3 _ _ e2
  refine ⟨dh, rfl, ⟨_, SqL.of eh⟩, fun D hDn => lc_it walk_list (fun i H' => Same H3 H' ∧ H' D = some (.lst ((wtL (baseR rs) most (ps.take i)).map V.int))) ⟨Rz.Same.new (Same.refl H3) hDn, upd_same⟩ (fun i H' _ h => SqL.of (h.1 _ _ eh)) ?_ ?_⟩
  · rintro i x H4 H5 hi ⟨S4, e4⟩ ⟨rfl, hx⟩
    have hi2 : i < ps.length := by
      rw [List.length_map, hts_len] at hi
      exact hi
    have ex : x = .int ps[i].2 := by
      rw [hts_nth (List.getElem?_eq_getElem hi2)] at hx
      exact (Option.some.inj hx).symm
    subst ex
    have hmem := mall ps[i] (List.getElem_mem hi2)
    obtain ⟨n, hn⟩ := Int.eq_ofNat_of_zero_le (show 0 ≤ most - ps[i].2 by omega)
    have hat : atI ((powsR rs 10).map V.int) (most - ps[i].2) = some (.int (baseR rs ^ n)) := by
      rw [hn]
      exact atI_nat (pows_at (by omega))
    refine ⟨rfl, yesT ⟨_, rfl, _, rfl, _, rfl, _, _, rfl, rfl, q, _, _, _, rfl, rfl, SqL.of (S4 _ _ e3), hat, _, e4, ?_, Rz.Same.upd S4 hDn, ?_⟩⟩
    · unfold wtL
      rw [List.length_map, List.length_map, List.length_take, sizeLine_eq]
      omega
    · rw [upd_same]
      unfold wtL
      rw [List.take_add_one, List.getElem?_eq_getElem hi2, List.map_append, List.map_append]
      show some (HO.lst (_ ++ [V.int (baseR rs ^ n)])) = some (.lst (_ ++ [V.int (baseR rs ^ (most - ps[i].2).toNat)]))
      rw [hn, Int.toNat_natCast]
  · rintro H4 ⟨S4, e4⟩
    rw [List.length_map, hts_len, List.take_length] at e4
    exact ⟨D, _, rfl, SqL.of e4, kw hnf H4 (S12.trans (S3.trans S4))⟩
end
end Rz

namespace Rz
open PySem PySem.Spec PyProof.Rows L2
def sp_Book_limit (cV cB cC : Addr) : Sp := fun vs H Q E => ∃ (b t : Addr) (rs : List Ru) (many most : Int), vs = [.ref b, .int many, .int most] ∧ BkAt cB cC H b t rs ∧ GoodB rs ∧ rs.length ≤ 6 ∧ 0 ≤ many ∧ many ≤ 1000000 ∧ most.natAbs < 2 ^ 60 ∧
  (¬ (0 ≤ most ∧ most ≤ 9) → ∀ H' d, Same H H' → H d = none → H' d = some (.xd [("most", .int most)]) → E (.ref cV) (some d) H') ∧
  (0 ≤ most ∧ most ≤ 9 → ∀ H', Same H H' → Q (.int (many * baseR rs ^ most.toNat)) H')
section
variable {w : World} {K : PySem.W.Frag} {mg : Str → Option Value} {base : Heap}
theorem kb_limit (T : Txt K mg) : KBn K T.fd_Book_limit P_Book_limit 2 ["most"] (fun us ws => us ++ ws) (fun vs zs => vs ++ zs) :=
  kbF T.F_Book_limit 2 ["most"] fun _ _ _ _ _ _ us ws h1 h2 => match us, ws, h1, h2 with | [_, _], [_], _, _ => rfl
theorem sc_Book_limit : FnScope N_Book_limit P_Book_limit (defScope s_Book_limit) := ⟨rfl, rfl, rfl, by decide +kernel, rfl, by decide +kernel, by decide +kernel⟩
theorem ok_Book_limit (T : Txt K mg) : FnOk prg w K mg base (L2.CX prg w) 8 T.f_Book_limit T.fd_Book_limit P_Book_limit (sp_Book_limit T.c_BadBound T.c_Book T.c_Rule) := by
  refine T.F_Book_limit.okX sc_Book_limit (fun vs H Q E h => ?_) (fun cdv A outer s H vs Q E hr h => ?_)
  · obtain ⟨b, t, rs, many, most, rfl, _⟩ := h
    rfl
  obtain ⟨b, t, rs, many, most, rfl, hB, hg, h6, n0, n1, hm, kV, kk⟩ := h
  obtain ⟨tG, k_GREATEST_HEIGHT⟩ := T.k_GREATEST_HEIGHT
  have tk : Takes (cxOf (L2.CX prg w) prg w K mg base N_Book_limit "Book.limit" (defScope s_Book_limit) T.f_Book_limit cdv A outer s H E) (fun cls d _ H' => E cls d H') := takes_of rfl rfl rfl rfl
  refine ⟨_, (pss_cons (ps_expr (pe_fn (ok_check_bound T) (hr.mono (by decide)) (by rfl) T.m_check_bound T.F_check_bound.kp T.b_check_bound .nil (passAt tk) (pa_cons (pv 2) (pa_cons (pe_glob (v := .int 9) (by rfl) k_GREATEST_HEIGHT ⟨_, rfl⟩) pa_nil))))
    (pss_one (ps_ret (pe_op op_mul (pv 1) (pe_ix ix_list (pe_mt0 (pv 0) T.cl_Book T.M_Book_powers (ok_Book_powers T) (hr.mono (by decide)) T.b_Book_powers .nil (fun _ => atN _)) (pv 2) (fun _ _ => rfl)))))), ?_⟩
  obtain ⟨db, tb, hb, ht, hP⟩ := id hB
  refine ⟨_, rfl, most, 9, rfl, by omega, fun hin => ?_, fun hout => kV hout⟩
  have kw := kk hin
  obtain ⟨n, rfl⟩ := Int.eq_ofNat_of_zero_le hin.1
  refine ⟨_, rfl, _, rfl, b, db, _, rfl, hb, rfl, b, t, rs, rfl, hB, hg, h6, fun H2 q S2 e2 => ?_⟩
  refine ⟨_, rfl, q, _, _, _, rfl, rfl, SqL.of e2, atI_nat (pows_at (by omega)), _, _, rfl, rfl, .inl ⟨by omega, by omega⟩, ?_⟩
  have z := kw H2 S2
  rw [Int.toNat_natCast] at z
  exact z
end
end Rz

namespace Rz
open PySem PySem.Spec PyProof.Rows L2
def sp_law_pool (K : PySem.W.Frag) : Sp := fun vs H Q _ => ∃ (a : Addr) (ns : List Int), vs = [.ref a] ∧ SqL K H a (ns.map V.int) ∧ ns.length ≤ 63 ∧ ∀ H' d, Same H H' → H d = none → Dr H' d → Q (.ref d) H'
section
variable {w : World} {K : PySem.W.Frag} {mg : Str → Option Value} {base : Heap}
theorem sc_law_pool : FnScope N__law_pool P__law_pool (defScope s__law_pool) := ⟨rfl, rfl, rfl, by decide +kernel, rfl, by decide +kernel, by decide +kernel⟩
theorem ok_law_pool (T : Txt K mg) : FnOk prg w K mg base (L2.CX prg w) 1 T.f__law_pool T.fd__law_pool P__law_pool (sp_law_pool K) := by
  refine Rz.Fun.okN T.F__law_pool sc_law_pool (fun vs H Q E h => ?_) (fun cdv A outer s H vs Q E hr h => ?_)
  · obtain ⟨a, ns, rfl, _⟩ := h
    rfl
  obtain ⟨a, ns, rfl, hS, hlen, k⟩ := h
  have nd := sc_law_pool.nd
  refine ⟨_, pss_cons (ps_set (i := 1) nd rfl (Or.inl rfl) (pe_lst pa_nil)) (pss_cons (ps_set (i := 2) nd rfl (Or.inl rfl) pe_int)
    (pss_cons (ps_for PassesOwn.never rfl (pi_list (pv 0)) (pg_name (i := 3) nd rfl (Or.inl rfl))
      (pss_cons (ps_set (i := 4) nd rfl (Or.inl rfl) (pe_callB call_abs (by rfl) T.n_abs (by decide +kernel) (pa_cons (pv 3) pa_nil)))
      (pss_cons (ps_set (i := 2) nd rfl (Or.inl rfl) (pe_op op_mod (pe_callTy call_int1 (by rfl) T.n_int (by decide +kernel) (pa_cons (pe_op op_add (pe_op op_mul (pv 2) pe_int) (pv 4)) pa_nil)) pe_int))
      (pss_one (ps_if (pt_cmpR op_lt (pv 4) (pe_op op_pow pe_int pe_int) (nomark _))
        (pss_one (ps_expr (pe_bm PySem.F.plainAttrs_list PySem.F.slot_list_append PySem.F.type_list_append mt_append (pv 1) (pa_cons (pv 4) pa_nil))))
        (pss_one (ps_for PassesOwn.never rfl (pi_range1 rfl T.n_range (pa_cons pe_int pa_nil)) (pg_name (i := 5) nd rfl (Or.inl rfl))
          (pss_one (ps_if (pt_cmpR op_gt (pv 4) pe_int (nomark _))
            (pss_cons (ps_expr (pe_bm PySem.F.plainAttrs_list PySem.F.slot_list_append PySem.F.type_list_append mt_append (pv 1) (pa_cons (pe_op op_mod (pe_callTy call_int1 (by rfl) T.n_int (by decide +kernel) (pa_cons (pv 4) pa_nil)) pe_int) pa_nil)))
              (pss_one (ps_set (i := 4) nd rfl (Or.inl rfl) (pe_op op_fdiv (pv 4) pe_int))))
            pss_nil)))))))))
    (pss_cons (ps_for PassesOwn.never rfl (pi_range1 rfl T.n_range (pa_cons pe_int pa_nil)) (pg_name (i := 5) nd rfl (Or.inl rfl))
      (pss_cons (ps_set (i := 6) nd rfl (Or.inl rfl) (pe_op op_mod (pe_callTy call_int1 (by rfl) T.n_int (by decide +kernel) (pa_cons (pe_op op_mul (pe_op op_add (pv 2) pe_int) (pe_op op_add (pe_op op_fdiv (pe_op op_add (pe_op op_mul (pe_op op_mul pe_int (pv 5)) (pv 5)) (pe_op op_mul pe_int (pv 5))) pe_int) pe_int)) pa_nil)) pe_int))
        (pss_one (ps_expr (pe_bm PySem.F.plainAttrs_list PySem.F.slot_list_append PySem.F.type_list_append mt_append (pv 1) (pa_cons (pe_op op_mod (pe_callTy call_int1 (by rfl) T.n_int (by decide +kernel) (pa_cons (pe_op op_add (pe_op op_mul (pv 6) (pv 6)) (pv 5)) pa_nil)) pe_int) pa_nil))))))
    (pss_one (ps_ret (pv 1)))))), ?_⟩
  refine ⟨Nat.zero_le _, fun d hd => ?_⟩
  have S0 : Same H (upd H d (.lst [])) := Rz.Same.new (Same.refl H) hd
  refine ⟨_, rfl, a, rfl, ⟨_, S0.seq hS⟩, for_list (K := K) (a := a) (xs := ns.map V.int) (fun i σ H' => ∃ (ks : List Int) (sd : Int) (v3 v4 v5 v6 : Option V), σ = [some (.ref a), some (.ref d), some (.int sd), v3, v4, v5, v6] ∧ Same H H' ∧ H' d = some (.lst (ks.map V.int)) ∧ ks.length ≤ i * 60 ∧ 0 ≤ sd ∧ sd < 1009)
    ⟨[], 0, none, none, none, none, rfl, S0, upd_same, Nat.le_refl _, by omega, by omega⟩ (fun i σ H' _ ⟨_, _, _, _, _, _, _, R, _⟩ => R.seq hS) ?_ ?_⟩
  · rintro i y σ H' hi ⟨ks, sd, v3, v4, v5, v6, rfl, R, hK, hl, h0, h1⟩
    obtain ⟨u, hu, rfl⟩ := mapi_get hi
    have hi63 : i < ns.length := (List.getElem?_eq_some_iff.mp hu).1
    refine ⟨_, rfl, u, rfl, ?_⟩
    refine ⟨_, rfl, _, _, rfl, rfl, .inl ⟨by omega, by omega⟩, _, rfl, _, _, rfl, rfl, .inl ⟨_, rfl, _, _, rfl, rfl, (by show (0 : Int) < 1009; decide), ?_⟩⟩
    refine ⟨_, rfl, _, _, rfl, rfl, ⟨by decide, by decide, by decide⟩, _, _, rfl, rfl, _, rfl, ?_⟩
    generalize (if u < 0 then -u else u) = r
    have b0 : 0 ≤ (sd * 31 + r) % 1009 := by omega
    have b1 : (sd * 31 + r) % 1009 < 1009 := by omega
    refine ite2 (fun _ => ?_) (fun _ => ?_)
    · refine ⟨_, rfl, .inl ⟨rfl, _, SqL.of hK⟩, _, rfl, d, _, _, rfl, rfl, hK, (by rw [List.length_map, sizeLine_eq]; omega), ?_⟩
      exact ⟨ks ++ [r], (sd * 31 + r) % 1009, _, _, _, _, rfl, Rz.Same.upd R hd, by rw [upd_same, List.map_append]; rfl, by rw [List.length_append, List.length_singleton]; omega, b0, b1⟩
    · refine ⟨60, rfl, by decide, by decide, for_range (n := 60) (fun j σ H2 => ∃ (ks2 : List Int) (r2 : Int) (v5 : Option V), σ = [some (.ref a), some (.ref d), some (.int ((sd * 31 + r) % 1009)), some (.int u), some (.int r2), v5, v6] ∧ Same H H2 ∧ H2 d = some (.lst (ks2.map V.int)) ∧ ks2.length ≤ i * 60 + j)
        ⟨ks, r, _, rfl, R, hK, by omega⟩ ?_ ?_⟩
      · rintro j σ2 H2 hj ⟨ks2, r2, v7, rfl, R2, hK2, hl2⟩
        refine ⟨_, rfl, _, _, rfl, rfl, _, rfl, ?_⟩
        refine ite2 (fun _ => ?_) (fun _ => ?_)
        · refine ⟨_, rfl, .inl ⟨rfl, _, SqL.of hK2⟩, _, rfl, .inl ⟨_, rfl, _, _, rfl, rfl, (by show (0 : Int) < 1000; decide), d, _, _, rfl, rfl, hK2, (by rw [List.length_map, sizeLine_eq]; omega), ?_⟩⟩
          refine ⟨_, rfl, _, _, rfl, rfl, ⟨by decide, by decide⟩, ?_⟩
          exact ⟨ks2 ++ [r2 % 1000], _, _, rfl, Rz.Same.upd R2 hd, by rw [upd_same, List.map_append]; rfl, by rw [List.length_append, List.length_singleton]; omega⟩
        · exact ⟨ks2, r2, _, rfl, R2, hK2, by omega⟩
      · rintro σ2 H2 ⟨ks2, r2, v7, rfl, R2, hK2, hl2⟩
        exact ⟨ks2, (sd * 31 + r) % 1009, _, _, _, _, rfl, R2, hK2, by omega, b0, b1⟩
  · rintro σ H' ⟨ks, sd, v3, v4, v5, v6, rfl, R, hK, hl, h0, h1⟩
    rw [List.length_map] at hl
    refine ⟨90, rfl, by decide, by decide, for_range (n := 90) (fun j σ H2 => ∃ (ks2 : List Int) (v5 v6 : Option V), σ = [some (.ref a), some (.ref d), some (.int sd), v3, v4, v5, v6] ∧ Same H H2 ∧ H2 d = some (.lst (ks2.map V.int)) ∧ ks2.length ≤ 3780 + j)
      ⟨ks, _, _, rfl, R, hK, by omega⟩ ?_ ?_⟩
    · rintro j σ2 H2 hj ⟨ks2, v7, v8, rfl, R2, hK2, hl2⟩
      refine ⟨_, rfl, _, _, rfl, rfl, _, rfl, _, _, rfl, rfl, .inl ⟨by decide, by decide⟩, _, rfl, _, _, rfl, rfl, .inl ⟨by omega, by omega⟩, _, rfl, _, _, rfl, rfl, .inl ⟨by decide, by decide⟩, _, _, rfl, rfl,
        _, _, rfl, rfl, ⟨by decide, by decide⟩, _, _, rfl, rfl, _, _, rfl, rfl, .inl ⟨by omega, by omega⟩, .inl ⟨_, rfl, _, _, rfl, rfl, (by show (0 : Int) < 1009; decide), ?_⟩⟩
      have m0 : ∀ z : Int, -(2 ^ 64) < z % 1009 ∧ z % 1009 < 2 ^ 64 := fun z => by omega
      refine ⟨_, rfl, .inl ⟨rfl, _, SqL.of hK2⟩, _, rfl, _, rfl, _, _, rfl, rfl, .inl (m0 _), _, rfl, _, _, rfl, rfl, .inl ⟨_, rfl, _, _, rfl, rfl, (by show (0 : Int) < 1013; decide), d, _, _, rfl, rfl, hK2, (by rw [List.length_map, sizeLine_eq]; omega), ?_⟩⟩
      exact ⟨ks2 ++ [_], _, _, rfl, Rz.Same.upd R2 hd, by rw [upd_same, List.map_append]; rfl, by rw [List.length_append, List.length_singleton]; omega⟩
    · rintro σ2 H2 ⟨ks2, v7, v8, rfl, R2, hK2, hl2⟩
      exact ⟨_, rfl, k H2 d R2 hd ⟨ks2, hK2, by omega⟩⟩
end
end Rz

namespace Rz
open PySem PySem.Spec PyProof.Rows L2
def sp_law_pick : Sp := fun vs H Q _ => ∃ (d : Addr) (m : Int), vs = [.ref d, .int m] ∧ 0 < m ∧ Dr H d ∧ ∀ H' r, 0 ≤ r → r < m → Dr H' d → But [d] H H' → Q (.int r) H'
section
variable {w : World} {K : PySem.W.Frag} {mg : Str → Option Value} {base : Heap}
theorem sc_law_pick : FnScope N__law_pick P__law_pick (defScope s__law_pick) := ⟨rfl, rfl, rfl, by decide +kernel, rfl, by decide +kernel, by decide +kernel⟩
theorem ok_law_pick (T : Txt K mg) : FnOk prg w K mg base (L2.CX prg w) 1 T.f__law_pick T.fd__law_pick P__law_pick sp_law_pick := by
  refine Rz.Fun.okN T.F__law_pick sc_law_pick (fun vs H Q E h => ?_) (fun cdv A outer s H vs Q E hr h => ?_)
  · obtain ⟨d, m, rfl, _⟩ := h
    rfl
  obtain ⟨d, m, rfl, hm, ⟨ns, hd, hl⟩, k⟩ := h
  have nd := sc_law_pick.nd
  refine ⟨_, (pss_cons (ps_if (pt_cmpR (op_eqD hr.units) (pv 0) (pe_lst pa_nil) (nomark _)) (pss_one (ps_ret pe_int)) pss_nil)
    (pss_one (ps_ret (pe_op op_mod (pe_callTy call_int1 (by rfl) T.n_int (by decide +kernel) (pa_cons (pe_bm PySem.F.plainAttrs_list PySem.F.slot_list_pop PySem.F.type_list_pop mt_popAt (pv 0) (pa_cons pe_int pa_nil)) pa_nil)) (pv 1))))), ?_⟩
  refine ⟨_, rfl, Nat.zero_le _, fun p hp => ?_⟩
  have np : d ≠ p := ne_of_none hd hp
  have hd2 : upd H p (.lst []) d = some (.lst (ns.map V.int)) := by rw [upd_ne np]; exact hd
  refine ⟨dInts ns, dInts [], dp_ints (SqL.of hd2), dp_ints (SqL.of upd_same), ints_shaped _, ints_shaped _, _, rfl, ?_⟩
  rw [ints_eqv]
  refine ite2 (fun e => ?_) (fun e => ?_)
  · exact k _ 0 (Int.le_refl _) hm ⟨ns, hd2, hl⟩ ((But.refl [d] H).upd (.inr hp))
  · have e2 : ns ≠ [] := fun z => e (decide_eq_true z)
    obtain ⟨x, r, rfl⟩ := List.exists_cons_of_ne_nil e2
    refine ⟨_, rfl, .inl ⟨rfl, _, SqL.of hd2⟩, d, _, 0, 0, .int x, rfl, rfl, hd2, by decide, by decide, (by simp [seqIndex?]), rfl, .inl ⟨x, rfl, ?_⟩⟩
    refine ⟨_, rfl, x, m, rfl, rfl, hm, ?_⟩
    refine k _ _ (Int.emod_nonneg _ (by omega)) (Int.emod_lt_of_pos _ hm) ⟨r, by rw [upd_same]; rfl, by simp at hl; omega⟩ (((But.refl [d] H).upd (.inr hp)).upd (.inl (by simp)))
end
end Rz

namespace Rz
open PySem PySem.Spec PyProof.Rows L2
/-- some of the letters, each once -/
def sp_law_alphabet : Sp := fun vs H Q _ => ∃ (d : Addr) (n : Int), vs = [.ref d, .int n] ∧ 0 ≤ n ∧ n ≤ 20 ∧ Dr H d ∧ ∀ H' (z : Str), (z.length : Int) = n → Over abc z → Dr H' d → But [d] H H' → Q (.str z) H'
section
variable {w : World} {K : PySem.W.Frag} {mg : Str → Option Value} {base : Heap}
theorem sc_law_alphabet : FnScope N__law_alphabet P__law_alphabet (defScope s__law_alphabet) := ⟨rfl, rfl, rfl, by decide +kernel, rfl, by decide +kernel, by decide +kernel⟩
theorem abc_nodup : abc.cps.toList.Nodup := by decide +kernel
theorem ok_law_alphabet (T : Txt K mg) : FnOk prg w K mg base (L2.CX prg w) 2 T.f__law_alphabet T.fd__law_alphabet P__law_alphabet sp_law_alphabet := by
  refine Rz.Fun.okN T.F__law_alphabet sc_law_alphabet (fun vs H Q E h => ?_) (fun cdv A outer s H vs Q E hr h => ?_)
  · obtain ⟨d, n, rfl, _⟩ := h
    rfl
  obtain ⟨d, n, rfl, n0, n1, hD, k⟩ := h
  have nd := sc_law_alphabet.nd
  refine ⟨_, (pss_cons (ps_set (i := 2) nd rfl (Or.inl rfl) pe_str)
    (pss_cons (ps_set (i := 3) nd rfl (Or.inr rfl) pe_str)
    (pss_cons (ps_for PassesOwn.never rfl (pi_range1 rfl T.n_range (pa_cons (pv 1) pa_nil)) (pg_name (i := 4) nd rfl (Or.inl rfl))
      (pss_cons (ps_setLc (i := 6) (own := [("_law_letter", 5)]) (g := (gName 5)) (tt := _) rfl nd rfl rfl (sw_true rfl rfl rfl (by decide +kernel)) (pi_str (pv 2)) (blkOk_by (N := N__law_alphabet) (sc := defScope s__law_alphabet) (by decide +kernel)) (fun _ _ _ _ _ => (pg_name (i := 5) nd rfl (Or.inl rfl))) (fun _ _ _ _ _ => (pts_one (pt_cmpR op_notIn_sign (pv 5) (pv 3) rfl))) (fun _ _ _ _ _ => (pv 5)))
      (pss_one (ps_set (i := 3) nd rfl (Or.inr rfl) (pe_op op_add_str (pv 3) (pe_ix ix_list (pv 6) (pe_fn (ok_law_pick T) (hr.mono (by decide)) (by rfl) T.m__law_pick T.F__law_pick.kp T.b__law_pick .nil (fun _ => atN _) (pa_cons (pv 0) (pa_cons (pe_callB call_len_seq (by rfl) T.n_len PySem.boot_len (pa_cons (pv 6) pa_nil)) pa_nil))) (fun _ _ => rfl)))))))
    (pss_one (ps_ret (pv 3)))))), ?_⟩
  refine ⟨_, rfl, n, rfl, by omega, by omega, for_range (n := n.toNat) (fun i σ H' => ∃ (v4 v5 v6 : Option V) (z : Str), σ = [some (.ref d), some (.int n), some (.str abc), some (.str z), v4, v5, v6] ∧ z.length = i ∧ Over abc z ∧ Dr H' d ∧ But [d] H H') ?_ ?_ ?_⟩
  · exact ⟨none, none, none, "", rfl, rfl, (fun c hc => by cases hc), hD, But.refl _ _⟩
  · rintro i σ H1 hi ⟨v4, v5, v6, z, rfl, hz, ho, D1, B1⟩
    refine ⟨_, rfl, abc, rfl, fun D hDn => lc_it walk_str (fun i H2 => ∃ ys : List Nat, H2 D = some (.lst (ys.map fun c => V.str ⟨#[c]⟩)) ∧ ys = (abc.cps.toList.take i).filter (fun c => !decide (c ∈ z.cps.toList)) ∧ Same H1 H2) ?_ (fun _ _ _ _ => True.intro) ?_ ?_⟩
    · exact ⟨[], upd_same, rfl, Rz.Same.new (Same.refl _) hDn⟩
    · rintro j x H2 H3 hj ⟨ys, e, ey, S⟩ ⟨rfl, c, hc, rfl⟩
      have hc' : abc.cps.toList[j]? = some c := by
        rw [← hc]
        exact Array.getElem?_toList ..
      have et : abc.cps.toList.take (j + 1) = abc.cps.toList.take j ++ [c] := by rw [List.take_add_one, hc']; rfl
      have lys : ys.length ≤ 26 := by
        rw [ey]
        refine Nat.le_trans (List.length_filter_le ..) ?_
        rw [List.length_take]
        exact Nat.le_trans (Nat.min_le_right ..) (by decide +kernel)
      refine ⟨rfl, _, rfl, _, rfl, c, z, rfl, rfl, _, rfl, ?_⟩
      refine ite2 (fun hb => ?_) (fun hb => ?_)
      · refine ⟨_, rfl, _, e, by rw [List.length_map, sizeLine_eq]; omega, ys ++ [c], by rw [upd_same, List.map_append]; rfl, ?_, Rz.Same.upd S hDn⟩
        rw [et, List.filter_append, ey]
        simp only [List.filter_cons, List.filter_nil]
        rw [if_pos hb]
      · refine ⟨ys, e, ?_, S⟩
        rw [et, List.filter_append, ey]
        simp only [List.filter_cons, List.filter_nil]
        rw [if_neg hb, List.append_nil]
    · rintro H2 ⟨ys, e, ey, S⟩
      have eall : abc.cps.toList.take abc.cps.size = abc.cps.toList := List.take_of_length_le (Nat.le_refl _)
      rw [eall] at ey
      have pos : 0 < ys.length := by
        refine Nat.pos_of_ne_zero fun h0 => ?_
        have h1 : ys = [] := List.length_eq_zero_iff.mp h0
        have h2 := nodup_le abc_nodup (z := z.cps.toList) fun x hx => Classical.byContradiction fun hn => by
          have h3 : x ∈ ys := by
            rw [ey]
            exact List.mem_filter.mpr ⟨hx, by simp [hn]⟩
          rw [h1] at h3
          cases h3
        have h4 : abc.cps.toList.length = 26 := by decide +kernel
        rw [h4, len_list] at h2
        omega
      have nDd : D ≠ d := Ne.symm (apartNew D1.some hDn)
      refine ⟨_, rfl, _, rfl, _, rfl, _, rfl, D, _, rfl, .inl (SqL.of e), d, _, rfl, by rw [List.length_map]; omega, D1.same S, fun H3 r r0 r1 D3 B3 => ?_⟩
      have e3 := B3.at e (nin1 nDd)
      obtain ⟨v, hv, hat⟩ := atI_in r0 r1
      obtain ⟨c, hc, rfl⟩ := List.mem_map.mp hv
      refine ⟨D, _, r, _, rfl, rfl, SqL.of e3, hat, z, ⟨#[c]⟩, rfl, rfl, by show z.length + 1 ≤ _; rw [sizeLine_eq]; omega, ?_⟩
      refine ⟨_, _, _, z ++ ⟨#[c]⟩, rfl, by rw [Str.length_append]; show z.length + 1 = _; omega, fun x hx => ?_, D3, fun b o hb he => B3 b o hb ((S _ _ (B1 b o hb he)))⟩
      have hx2 : x ∈ z.cps.toList ++ [c] := by
        have e5 : (z ++ ⟨#[c]⟩ : Str).cps.toList = z.cps.toList ++ [c] := by
          show (z.cps ++ #[c]).toList = _
          rw [Array.toList_append]
        rw [← e5]
        exact hx
      rcases List.mem_append.mp hx2 with h | h
      · exact ho x h
      · have e6 : x = c := by simpa using h
        rw [e6]
        rw [ey] at hc
        exact (List.mem_filter.mp hc).1
  · rintro σ H1 ⟨v4, v5, v6, z, rfl, hz, ho, D1, B1⟩
    exact ⟨_, rfl, k H1 z (by omega) ho D1 B1⟩
end
end Rz

namespace Rz
open PySem PySem.Spec PyProof.Rows L2
/-- some word over the signs of z, not longer than g -/
def sp_law_word_of : Sp := fun vs H Q _ => ∃ (d : Addr) (z : Str) (l g : Int), vs = [.ref d, .str z, .int l, .int g] ∧ 0 ≤ l ∧ l ≤ g ∧ g ≤ 1000 ∧ 0 < z.length ∧ z.length ≤ 1000 ∧ Dr H d ∧
  ∀ H' (x : Str), (l : Int) ≤ x.length → (x.length : Int) ≤ g → Over z x → Dr H' d → But [d] H H' → Q (.str x) H'
section
variable {w : World} {K : PySem.W.Frag} {mg : Str → Option Value} {base : Heap}
theorem sc_law_word_of : FnScope N__law_word_of P__law_word_of (defScope s__law_word_of) := ⟨rfl, rfl, rfl, by decide +kernel, rfl, by decide +kernel, by decide +kernel⟩
theorem ok_law_word_of (T : Txt K mg) : FnOk prg w K mg base (L2.CX prg w) 2 T.f__law_word_of T.fd__law_word_of P__law_word_of sp_law_word_of := by
  refine Rz.Fun.okN T.F__law_word_of sc_law_word_of (fun vs H Q E h => ?_) (fun cdv A outer s H vs Q E hr h => ?_)
  · obtain ⟨d, z, l, g, rfl, _⟩ := h
    rfl
  obtain ⟨d, z, l, g, rfl, hl0, hlg, hg, hz0, hz, hD, k⟩ := h
  have nd := sc_law_word_of.nd
  refine ⟨_, (pss_cons (ps_set (i := 4) nd rfl (Or.inl rfl) (pe_op op_add (pv 2) (pe_fn (ok_law_pick T) (hr.mono (by decide)) (by rfl) T.m__law_pick T.F__law_pick.kp T.b__law_pick .nil (fun _ => atN _) (pa_cons (pv 0) (pa_cons (pe_op op_add (pe_op op_sub (pv 3) (pv 2)) pe_int) pa_nil)))))
    (pss_one (ps_ret (pe_join pe_str (pe_lc (own := [("_law_k", 5)]) (g := (gName 5)) (tt := tYes) rfl nd (pi_range1 rfl T.n_range (pa_cons (pv 4) pa_nil)) (blkOk_by (N := N__law_word_of) (sc := defScope s__law_word_of) (by decide +kernel)) (fun _ _ _ _ _ => (pg_name (i := 5) nd rfl (Or.inl rfl))) (fun _ _ _ _ _ => pts_nil)
      (fun _ _ _ _ _ => (pe_ix ix_str (pv 1) (pe_fn (ok_law_pick T) (hr.mono (by decide)) (by rfl) T.m__law_pick T.F__law_pick.kp T.b__law_pick .nil (fun _ => atN _) (pa_cons (pv 0) (pa_cons (pe_callB call_len_str (by rfl) T.n_len PySem.boot_len (pa_cons (pv 1) pa_nil)) pa_nil))) (fun _ _ => rfl)))))))), ?_⟩
  refine ⟨_, rfl, _, rfl, _, rfl, _, rfl, _, _, rfl, rfl, _, _, rfl, rfl, d, _, rfl, by omega, hD, fun H1 r h0 h1 D1 B1 => ⟨_, _, rfl, rfl, ?_⟩⟩
  refine ⟨⟨_, rfl⟩, _, rfl, l + r, rfl, by omega, by omega, fun D hDn => lc_range (lo := 0) (n := (l + r).toNat) (fun i H2 => ∃ ys : List Str, H2 D = some (.lst (ys.map V.str)) ∧ ys.length = i ∧ (∀ y ∈ ys, y.length = 1 ∧ Over z y) ∧ Dr H2 d ∧ But [d] H H2) ?_ ?_ ?_⟩
  · exact ⟨[], upd_same, rfl, (fun y hy => by cases hy), D1.same (Rz.Same.new (Same.refl _) hDn), B1.upd (.inr (B1.free (fun z => by
      obtain ⟨_, q, _⟩ := D1
      have e : D = d := by simpa using z
      rw [e, q] at hDn
      cases hDn) hDn))⟩
  · rintro i H2 hi ⟨ys, hY, hl, hy, D2, B2⟩
    refine ⟨rfl, yesT ⟨_, rfl, _, rfl, _, rfl, z, rfl, by rw [sizeLine_eq]; omega, d, _, rfl, by omega, D2, fun H3 r2 g0 g1 D3 B3 => ?_⟩⟩
    obtain ⟨c, hc, hat⟩ := atI_in (xs := z.cps.toList) g0 (by rw [len_list]; exact g1)
    have nDd : D ∉ [d] := fun z => by
      obtain ⟨_, q, _⟩ := D1
      have e : D = d := by simpa using z
      rw [e, q] at hDn
      cases hDn
    have hY3 := B3.at hY nDd
    have l3 : ys.length < sizeLine := by rw [sizeLine_eq]; omega
    refine ⟨z, _, c, rfl, rfl, by rw [sizeLine_eq]; omega, hat, _, hY3, by rw [List.length_map]; exact l3, ys ++ [⟨#[c]⟩], by rw [upd_same, List.map_append]; rfl, by rw [List.length_append, hl]; rfl, fun y h => ?_, ?_, ?_⟩
    · rcases List.mem_append.mp h with h | h
      · exact hy y h
      · have e : y = ⟨#[c]⟩ := by simpa using h
        subst e
        exact ⟨rfl, fun c2 h2 => by
          have e2 : c2 = c := by simpa using h2
          rw [e2]
          exact hc⟩
    · obtain ⟨ns, n1, n2⟩ := D3
      exact ⟨ns, by rw [upd_ne (fun z => nDd (by simp [z]))]; exact n1, n2⟩
    · exact (B2.trans B3).upd (.inr (B1.free nDd hDn))
  · rintro H2 ⟨ys, hY, hl, hy, D2, B2⟩
    have s1 := sum_ones fun y h => (hy y h).1
    refine ⟨_, D, ys, rfl, rfl, .inl (SqL.of hY), by show _ + ys.length * 0 ≤ _; omega, k H2 _ ?_ ?_ (over_join fun y h => (hy y h).2) D2 B2⟩
    · rw [join0_len]; omega
    · rw [join0_len]; omega
end
end Rz

namespace Rz
open PySem PySem.Spec PyProof.Rows L2
/-! ### lists of pairs of texts -/
def sdV (r : Ru) : List V := [.str r.1, .str r.2]
def SdL (H : Hp) (ts : List Addr) (rs : List Ru) : Prop := Paired (fun (t : Addr) (r : Ru) => H t = some (.tup (sdV r))) ts rs
def SAt (H : Hp) (l : Addr) (rs : List Ru) : Prop := ∃ ts : List Addr, H l = some (.lst (ts.map V.ref)) ∧ SdL H ts rs
theorem SdL.keep {H H' : Hp} (h : Tups H H') : ∀ {ts : List Addr} {rs : List Ru}, SdL H ts rs → SdL H' ts rs
  | _, _, .nil => .nil
  | _, _, .cons e r => .cons (h _ _ e) (SdL.keep h r)
theorem SdL.len {H : Hp} {ts : List Addr} {rs : List Ru} (h : SdL H ts rs) : ts.length = rs.length := Paired.length h
theorem SdL.append {H : Hp} : ∀ {ts us : List Addr} {rs qs : List Ru}, SdL H ts rs → SdL H us qs → SdL H (ts ++ us) (rs ++ qs)
  | _, _, _, _, .nil, s => s
  | _, _, _, _, .cons e t, s => .cons e (SdL.append t s)
theorem SdL.take {H : Hp} : ∀ {ts : List Addr} {rs : List Ru} (n : Nat), SdL H ts rs → SdL H (ts.take n) (rs.take n)
  | _, _, 0, _ => .nil
  | _, _, _ + 1, .nil => .nil
  | _, _, n + 1, .cons e r => .cons e (SdL.take n r)
theorem SdL.drop {H : Hp} : ∀ {ts : List Addr} {rs : List Ru} (n : Nat), SdL H ts rs → SdL H (ts.drop n) (rs.drop n)
  | _, _, 0, h => h
  | _, _, _ + 1, .nil => .nil
  | _, _, n + 1, .cons _ r => SdL.drop n r
theorem SdL.get {H : Hp} : ∀ {ts : List Addr} {rs : List Ru} {i : Nat} {t : Addr}, SdL H ts rs → ts[i]? = some t → ∃ r, rs[i]? = some r ∧ H t = some (.tup (sdV r))
  | _, _, i, t, .nil, h => by cases h
  | _, _, 0, t, .cons e r, h => by
    have z := Option.some.inj h
    subst z
    exact ⟨_, rfl, e⟩
  | _, _, i + 1, t, .cons e r, h => SdL.get (i := i) r (by simpa using h)
theorem SAt.same {H H' : Hp} {l : Addr} {rs : List Ru} (S : Same H H') (a : SAt H l rs) : SAt H' l rs := let ⟨ts, h1, h2⟩ := a; ⟨ts, S _ _ h1, h2.keep (.of S)⟩
theorem SAt.but {D : List Addr} {H H' : Hp} {l : Addr} {rs : List Ru} (a : SAt H l rs) (B : But D H H') (n : l ∉ D) (t : Tups H H') : SAt H' l rs := let ⟨ts, h1, h2⟩ := a; ⟨ts, B.at h1 n, h2.keep t⟩
theorem lc_sides {K : PySem.W.Frag} {l : Addr} {rs : List Ru} {g : TG} {te : TE} {vs : List Nat} {σ : L2.St} {H1 : Hp} {D : Addr} {Qd : Hp → Prop} (f : Ru → V) (hL : SAt H1 l rs) (hz : rs.length ≤ sizeLine) (hD : H1 D = none)
    (body : ∀ (t : Addr) (r : Ru) (H : Hp) (Q : VK), r ∈ rs → Same H1 H → H t = some (.tup (sdV r)) → (∀ H4, Same H H4 → Q (f r) H4) → g (.ref t) (wipe σ vs) H fun σ2 H2 => wipe σ2 vs = wipe σ vs ∧ te σ2 H2 Q)
    (hd : ∀ H, Same H1 H → H D = some (.lst (rs.map f)) → Qd H) :
    ∃ W : Nat → Nat → Hp → Prop, (∃ m, W 0 m (upd H1 D (.lst []))) ∧ ∀ i m H, W i m H →
      ((Itl K l).stop i H ∧ Qd H) ∨ ((Itl K l).go i H ∧ ∃ Nx : Hp → Prop, (∀ H', Nx H' → ∃ m', m' < m ∧ W (i + 1) m' H') ∧ ∀ x H', (Itl K l).yld i H x H' → g x (wipe σ vs) H' fun σ2 H2 => wipe σ2 vs = wipe σ vs ∧ tYes σ2 H2 fun b H3 =>
        if b = true then te σ2 H3 fun y H4 => ∃ acc, H4 D = some (.lst acc) ∧ acc.length < sizeLine ∧ Nx (upd H4 D (.lst (acc ++ [y]))) else Nx H3) := by
  obtain ⟨ts, hl, hP⟩ := hL
  refine lc_list (K := K) (a := l) (xs := ts.map V.ref) (fun i H => Same H1 H ∧ H D = some (.lst ((rs.take i).map f))) ⟨Rz.Same.new (Same.refl H1) hD, upd_same⟩ (fun i H _ h => SqL.of (h.1 _ _ hl)) (fun i x H hx h => ?_) (fun H h => hd H h.1 ?_)
  · obtain ⟨S, e⟩ := h
    obtain ⟨t, ht, rfl⟩ := refs_get hx
    obtain ⟨p, hp, h2⟩ := hP.get ht
    have hi : i < rs.length := (List.getElem?_eq_some_iff.mp hp).1
    refine body t p H _ (List.mem_of_getElem? hp) S (S _ _ h2) fun H4 S4 => ⟨_, S4 _ _ e, ?_, Rz.Same.upd (S.trans S4) hD, ?_⟩
    · rw [List.length_map, List.length_take]
      omega
    · rw [upd_same, List.take_add_one, hp, List.map_append]
      rfl
  · have := h.2
    rw [List.length_map, hP.len, List.take_length] at this
    exact this
/-- as data -/
abbrev dSd (r : Ru) : PyData := .tuple [.str r.1, .str r.2]
abbrev dSds (rs : List Ru) : PyData := .list (rs.map dSd)
theorem sds_all {K : PySem.W.Frag} {H : Hp} : ∀ {ts : List Addr} {rs : List Ru}, SdL H ts rs → DpAll K H (ts.map V.ref) (rs.map dSd)
  | _, _, .nil => .nil
  | _, _, .cons e r => .cons (.tup (SqT.of e) (.cons (.str _) (.cons (.str _) .nil))) (sds_all r)
theorem sds_at {K : PySem.W.Frag} {H : Hp} {l : Addr} {rs : List Ru} (h : SAt H l rs) : Dp K H (.ref l) (dSds rs) := let ⟨_, h1, h2⟩ := h; .lst (SqL.of h1) (sds_all h2)
end Rz

namespace Rz
open PySem PySem.Spec PyProof.Rows L2
theorem over_fo {z x : Str} (hz : Over abc z) (h : Over z x) : fo x = none := List.findIdx?_eq_none_iff.mpr fun c hc => by simp [oddC, hz c (h c hc)]
theorem word_good {z l r : Str} (hz : Over abc z) (hl : Over z l) (hr : Over z r) (l1 : 1 ≤ l.length) (l4 : l.length ≤ 4) (r4 : r.length ≤ 4) : rd l r = .good := by
  unfold rd
  rw [over_fo hz hl]
  dsimp only
  rw [over_fo hz hr]
  dsimp only
  rw [if_neg (by omega)]
theorem good_one {rs : List Ru} {r : Ru} (h : GoodB rs) (g : rd r.1 r.2 = .good) : GoodB (rs ++ [r]) := fun x hx => by
  rcases List.mem_append.mp hx with e | e
  · exact h x e
  · have e2 : x = r := by simpa using e
    rw [e2]
    exact g
theorem SAt.some {H : Hp} {l : Addr} {rs : List Ru} (a : SAt H l rs) : ∃ o, H l = Option.some o := let ⟨_, h, _⟩ := a; ⟨_, h⟩
theorem SAt.upd {H : Hp} {l q : Addr} {rs : List Ru} {o : HO} (a : SAt H l rs) (n : l ≠ q) (t : ∀ xs, H q ≠ Option.some (.tup xs)) : SAt (L2.upd H q o) l rs := let ⟨ts, h1, h2⟩ := a; ⟨ts, by rw [upd_ne n]; exact h1, h2.keep (Tups.upd (Tups.of (Same.refl H)) t)⟩
theorem to_goS {K : PySem.W.Frag} {H : Hp} {l : Addr} {rs : List Ru} {Q : VK} {j : Nat} (hu : SAt H l rs) (hj : j ≤ rs.length) (k : ∀ (p : Addr) (H' : Hp), H p = none → Same H H' → SAt H' p (rs.take j) → Q (.ref p) H') : rSlL K (.ref l) none (some (j : Int)) H Q := by
  obtain ⟨ts, e1, P1⟩ := hu
  refine ⟨l, _, rfl, SqL.of e1, fun p hp => ?_⟩
  have S := Rz.Same.new (o := .lst (cutV (ts.map V.ref) none (some (j : Int)))) (Same.refl H) hp
  exact k p _ hp S ⟨ts.take j, by rw [upd_same, cutV_to (by rw [List.length_map, P1.len]; exact hj), List.map_take], (P1.take j).keep (Tups.of S)⟩
theorem from_goS {K : PySem.W.Frag} {H : Hp} {l : Addr} {rs : List Ru} {Q : VK} {i : Nat} {σ : L2.St} (hu : SAt H l rs) (hi : i ≤ rs.length) (k : ∀ (p : Addr) (H' : Hp), H p = none → Same H H' → SAt H' p (rs.drop i) → Q (.ref p) H') : tNoPart σ H fun u H3 => rSlL K (.ref l) (some (i : Int)) u H3 Q := by
  obtain ⟨ts, e1, P1⟩ := hu
  refine ⟨l, _, rfl, SqL.of e1, fun p hp => ?_⟩
  have S := Rz.Same.new (o := .lst (cutV (ts.map V.ref) (some (i : Int)) none)) (Same.refl H) hp
  exact k p _ hp S ⟨ts.drop i, by rw [upd_same, cutV_from (by rw [List.length_map, P1.len]; exact hi), List.map_drop], (P1.drop i).keep (Tups.of S)⟩
theorem copy_goS {K : PySem.W.Frag} {H : Hp} {l : Addr} {rs : List Ru} {Q : VK} (hu : SAt H l rs) (k : ∀ (p : Addr) (H' : Hp), H p = none → Same H H' → SAt H' p rs → Q (.ref p) H') : rListS K [V.ref l] H Q := by
  obtain ⟨ts, e1, P1⟩ := hu
  unfold rListS
  refine ⟨l, _, rfl, SqL.of e1, fun p hp => ?_⟩
  have S := Rz.Same.new (o := .lst (ts.map V.ref)) (Same.refl H) hp
  exact k p _ hp S ⟨ts, upd_same, P1.keep (Tups.of S)⟩
theorem cat_goS {H : Hp} {l m : Addr} {us vs : List Ru} {Q : VK} (hu : SAt H l us) (hv : SAt H m vs) (hz : us.length + vs.length ≤ 1000000) (k : ∀ (p : Addr) (H' : Hp), H p = none → Same H H' → SAt H' p (us ++ vs) → Q (.ref p) H') : rCat (.ref l) (.ref m) H Q := by
  obtain ⟨ts, e1, P1⟩ := hu
  obtain ⟨ws, e2, P2⟩ := hv
  refine ⟨l, m, _, _, rfl, rfl, e1, e2, by rw [List.length_map, List.length_map, P1.len, P2.len, sizeLine_eq]; omega, fun p hp => ?_⟩
  have S := Rz.Same.new (o := .lst (ts.map V.ref ++ ws.map V.ref)) (Same.refl H) hp
  exact k p _ hp S ⟨ts ++ ws, by rw [upd_same, List.map_append], (P1.append P2).keep (Tups.of S)⟩
theorem bd_ne {cB cC : Addr} {H : Hp} {b t d : Addr} {rs : List Ru} (h : BkAt cB cC H b t rs) (D : Dr H d) : b ≠ d := fun e => by
  obtain ⟨dx, ts, h1, _⟩ := h
  obtain ⟨xs, h2⟩ := D.isL
  rw [e, h2] at h1
  cases h1
theorem drN {cB : Addr} {H : Hp} {d : Addr} (D : Dr H d) : ∀ x ∈ [d], (∃ xs, H x = Option.some (.lst xs)) ∨ ∃ dx v, H x = Option.some (.ins cB dx [("_rules", v)]) := fun x hx => by
  have e : x = d := by simpa using hx
  rw [e]
  exact .inl D.isL
theorem len_goS {K : PySem.W.Frag} {H : Hp} {l : Addr} {rs : List Ru} {Q : VK} (hu : SAt H l rs) (k : Q (.int (rs.length : Nat)) H) : rLenS K [V.ref l] H Q := by
  obtain ⟨ts, e1, P1⟩ := hu
  exact lenS_go (SqL.of e1) (by rw [List.length_map, P1.len]; exact k)
theorem sb_ne {cB cC : Addr} {H : Hp} {b t l : Addr} {rs qs : List Ru} (A : SAt H l qs) (h : BkAt cB cC H b t rs) : l ≠ b := fun e => by
  obtain ⟨dx, ts, h1, _⟩ := h
  obtain ⟨us, h2, _⟩ := A
  rw [← e, h2] at h1
  cases h1
theorem bkT {cB cC : Addr} {H H' : Hp} {b t : Addr} {rs : List Ru} (h : BkAt cB cC H b t rs) (B : But [b] H H') : Tups H H' := Tups.but B fun x hx xs e => by
  have e2 : x = b := by simpa using hx
  obtain ⟨dx, ts, h1, _⟩ := h
  rw [e2, h1] at e
  cases e
theorem bkN {cB cC : Addr} {H : Hp} {b t : Addr} {rs : List Ru} (h : BkAt cB cC H b t rs) : ∀ x ∈ [b], (∃ xs, H x = Option.some (.lst xs)) ∨ ∃ dx v, H x = Option.some (.ins cB dx [("_rules", v)]) := fun x hx => by
  have e : x = b := by simpa using hx
  obtain ⟨dx, ts, h1, _⟩ := h
  rw [e]
  exact .inr ⟨_, _, h1⟩
theorem sd_eqv (r : Ru) : PyData.eqv (dSd r) (dSd r) = true := by
  show PyData.eqvAll _ _ = true
  simp [PyData.eqvAll, PyData.eqv]
theorem sd_shaped {r : Ru} (h : rd r.1 r.2 = .good) : SeqAt.shaped (dSd r) = true := by
  have g := rd_fo h
  have a : PyData.canLayAll0 [PyData.str r.1, PyData.str r.2] = true := by simp [PyData.canLayAll0, PyData.canLay0, strOk_of g.1, strOk_of g.2]
  have d : PyData.depth (dSd r) ≤ 64 := by simp [PyData.depth, PyData.depthAll]
  show (PyData.canLayAll0 [PyData.str r.1, PyData.str r.2] && decide (PyData.depth (dSd r) ≤ 64)) = true
  rw [a, decide_eq_true d]
  rfl
theorem dp_sd {K : PySem.W.Frag} {H : Hp} {q : Addr} {r : Ru} (h : H q = Option.some (.tup [.str r.1, .str r.2])) : Dp K H (.ref q) (dSd r) := .tup (SqT.of h) (.cons (.str _) (.cons (.str _) .nil))
end Rz

namespace Rz
open PySem PySem.Spec PyProof.Rows L2
/-! ### the small books, written with digits -/
def planTab : List (List Ru) := [[("01", "1")], [("00", "010")], [("01", "110")], [("01", "10")], [("00", "1"), ("11", "0")], [("01", ""), ("10", "")], [("0", "12"), ("21", "0")], [("00", "0")], [("001", "10")], [("010", "1001")], [("0", "1"), ("1", "2")], [("00", "12"), ("2", "")]]
def planT (rs : List Ru) : Str := Txt.join " " (rs.map fun r => ruleT r.1 r.2)
abbrev planL : List Str := ["01:1", "00:010", "01:110", "01:10", "00:1 11:0", "01: 10:", "0:12 21:0", "00:0"]
abbrev planM : List Str := ["001:10", "010:1001", "0:1 1:2", "00:12 2:"]
theorem plan_texts : planL ++ planM = planTab.map planT := by decide +kernel
theorem plan_digs : ∀ rs ∈ planTab, rs ≠ [] ∧ rs.length ≤ 6 ∧ ∀ r ∈ rs, (∀ c ∈ r.1.cps.toList, c = 48 ∨ c = 49 ∨ c = 50) ∧ (∀ c ∈ r.2.cps.toList, c = 48 ∨ c = 49 ∨ c = 50) ∧ 1 ≤ r.1.length ∧ r.1.length ≤ 4 ∧ r.2.length ≤ 4 := by decide +kernel
theorem plan_len : ∀ rs ∈ planTab, (planT rs).length ≤ 20 := by decide +kernel
theorem mapT_len (f : Nat → Nat) (x : Str) : (mapT f x).length = x.length := by
  have h := congrArg List.length (mapT_list f x)
  rw [List.length_map] at h
  exact h
theorem mapT_mapT (f g : Nat → Nat) (x : Str) : mapT f (mapT g x) = mapT (fun e => f (g e)) x := by
  refine str_ext ?_
  rw [mapT_list, mapT_list, mapT_list, List.map_map]
  rfl
theorem mapT_id (x : Str) : mapT (fun e => e) x = x := by
  refine str_ext ?_
  rw [mapT_list]
  exact List.map_id _
theorem ruleT_list (l r : Str) : (ruleT l r).cps.toList = l.cps.toList ++ 58 :: r.cps.toList := by
  rw [ruleT_join]
  have b := TL.tl_join ":" [l, r]
  rw [← TL.join_eq] at b
  exact b
theorem mapT_rule {f : Nat → Nat} (h : f 58 = 58) (l r : Str) : mapT f (ruleT l r) = ruleT (mapT f l) (mapT f r) := by
  refine str_ext ?_
  rw [mapT_list, ruleT_list, ruleT_list, List.map_append, List.map_cons, h, mapT_list, mapT_list]
theorem joinL_map (f : Nat → Nat) (s : List Nat) : ∀ ps : List (List Nat), (TL.joinL s ps).map f = TL.joinL (s.map f) (ps.map fun p => p.map f)
  | [] => rfl
  | [p] => rfl
  | p :: q :: r => by
    have ih := joinL_map f s (q :: r)
    show (p ++ (s ++ TL.joinL s (q :: r))).map f = p.map f ++ (s.map f ++ TL.joinL (s.map f) ((q :: r).map fun p => p.map f))
    rw [List.map_append, List.map_append, ih]
def mapR (f : Nat → Nat) (r : Ru) : Ru := (mapT f r.1, mapT f r.2)
theorem planT_list (rs : List Ru) : (planT rs).cps.toList = TL.joinL [32] ((rs.map fun r => ruleT r.1 r.2).map fun y => y.cps.toList) := by
  have h := TL.tl_join " " (rs.map fun r => ruleT r.1 r.2)
  rw [← TL.join_eq] at h
  exact h
theorem mapT_plan {f : Nat → Nat} (h1 : f 58 = 58) (h2 : f 32 = 32) (rs : List Ru) : mapT f (planT rs) = planT (rs.map (mapR f)) := by
  refine str_ext ?_
  rw [mapT_list, planT_list, planT_list, joinL_map]
  have e : [32].map f = [32] := by rw [List.map_cons, h2]; rfl
  rw [e, List.map_map, List.map_map, List.map_map, List.map_map]
  congr 1
  refine List.map_congr_left fun r _ => ?_
  show (ruleT r.1 r.2).cps.toList.map f = (ruleT (mapT f r.1) (mapT f r.2)).cps.toList
  rw [← mapT_rule h1, mapT_list]
theorem abc_ge : ∀ c ∈ abc.cps.toList, 97 ≤ c ∧ c ≤ 122 := by decide +kernel
def sub1 (d c e : Nat) : Nat := if e = d then c else e
/-- the first signs stand for their digits -/
def subs (z : List Nat) : Nat → Nat → Nat
  | 0, e => e
  | j + 1, e => sub1 (48 + j) (z.getD j 97) (subs z j e)
theorem subs_out {z : List Nat} (hz : ∀ c ∈ z, 97 ≤ c) {e : Nat} (h : e < 48 ∨ (50 < e ∧ e < 97)) : ∀ j, j ≤ 3 → subs z j e = e
  | 0, _ => rfl
  | j + 1, hj => by
    have ih := subs_out hz h j (by omega)
    show sub1 _ _ (subs z j e) = e
    rw [ih]
    exact if_neg (by omega)
theorem subs_dig {a b c e : Nat} (ha : a ∈ abc.cps.toList) (hb : b ∈ abc.cps.toList) (hc : c ∈ abc.cps.toList) (h : e = 48 ∨ e = 49 ∨ e = 50) : subs [a, b, c] 3 e ∈ abc.cps.toList := by
  have ga := (abc_ge a ha).1
  have gb := (abc_ge b hb).1
  show sub1 50 c (sub1 49 b (sub1 48 a e)) ∈ _
  rcases h with rfl | rfl | rfl
  · have e1 : sub1 48 a 48 = a := rfl
    have e2 : sub1 49 b a = a := if_neg (by omega)
    have e3 : sub1 50 c a = a := if_neg (by omega)
    rw [e1, e2, e3]
    exact ha
  · have e1 : sub1 48 a 49 = 49 := rfl
    have e2 : sub1 49 b 49 = b := rfl
    have e3 : sub1 50 c b = b := if_neg (by omega)
    rw [e1, e2, e3]
    exact hb
  · have e1 : sub1 48 a 50 = 50 := rfl
    have e2 : sub1 49 b 50 = 50 := rfl
    have e3 : sub1 50 c 50 = c := rfl
    rw [e1, e2, e3]
    exact hc
theorem plan_good {rs : List Ru} (h : rs ∈ planTab) {a b c : Nat} (ha : a ∈ abc.cps.toList) (hb : b ∈ abc.cps.toList) (hc : c ∈ abc.cps.toList) : GoodB (rs.map (mapR (subs [a, b, c] 3))) := fun r hr => by
  obtain ⟨q, hq, rfl⟩ := List.mem_map.mp hr
  obtain ⟨d1, d2, l1, l4, r4⟩ := (plan_digs rs h).2.2 q hq
  have ov : ∀ x : Str, (∀ c ∈ x.cps.toList, c = 48 ∨ c = 49 ∨ c = 50) → fo (mapT (subs [a, b, c] 3) x) = none := fun x hx => over_fo (z := abc) (fun _ z => z) fun y hy => by
    rw [mapT_list] at hy
    obtain ⟨e, he, rfl⟩ := List.mem_map.mp hy
    exact subs_dig ha hb hc (hx e he)
  exact good_rd (ov _ d1) (ov _ d2) (by rw [show (mapR (subs [a, b, c] 3) q).1 = mapT _ q.1 from rfl, mapT_len]; exact l1) (by rw [show (mapR (subs [a, b, c] 3) q).1 = mapT _ q.1 from rfl, mapT_len]; exact l4) (by rw [show (mapR (subs [a, b, c] 3) q).2 = mapT _ q.2 from rfl, mapT_len]; exact r4)
theorem planT_split {rs : List Ru} (h : GoodB rs) (n : rs ≠ []) : Txt.split (planT rs) " " = rs.map fun r => ruleT r.1 r.2 := by
  unfold planT
  refine TL.split_join (s := 32) (S := []) rfl (by decide +kernel) (by simpa using n) fun p hp => ?_
  obtain ⟨r, hr, rfl⟩ := List.mem_map.mp hp
  have g := rd_fo (h r hr)
  have na : 32 ∉ abc.cps.toList := by decide +kernel
  show 32 ∉ (ruleT r.1 r.2).cps.toList
  rw [ruleT_list]
  intro z
  rcases List.mem_append.mp z with z | z
  · exact na (fo_in g.1 _ z)
  · rcases List.mem_cons.mp z with z | z
    · cases z
    · exact na (fo_in g.2 _ z)
end Rz

namespace Rz
open PySem PySem.Spec PyProof.Rows L2
/-- at most 6 good rules, as a new list of pairs -/
def sp_law_book_of : Sp := fun vs H Q _ => ∃ (d : Addr) (z : Str), vs = [.ref d, .str z] ∧ z.length = 3 ∧ Over abc z ∧ Dr H d ∧ ∀ H' l rs, Dr H' d → But [d] H H' → H l = none → SAt H' l rs → GoodB rs → rs.length ≤ 6 → Q (.ref l) H'
theorem split_goS {a b : Str} {H : Hp} {Q : VK} (hb : (b.length == 0) = false) (ha : a.length + 2 ≤ sizeLine) (k : ∀ p, H p = none → Q (.ref p) (upd H p (.lst ((Txt.split a b).map V.str)))) : ∃ x y, V.str a = .str x ∧ [V.str b] = [.str y] ∧ (y.length == 0) = false ∧ x.length + 2 ≤ sizeLine ∧ ∀ p, H p = none → Q (.ref p) (upd H p (.lst ((Txt.split x y).map V.str))) := ⟨a, b, rfl, rfl, hb, ha, k⟩
section
variable {w : World} {K : PySem.W.Frag} {mg : Str → Option Value} {base : Heap}
theorem sc_law_book_of : FnScope N__law_book_of P__law_book_of (defScope s__law_book_of) := ⟨rfl, rfl, rfl, by decide +kernel, rfl, by decide +kernel, by decide +kernel⟩
theorem ok_law_book_of (T : Txt K mg) : FnOk prg w K mg base (L2.CX prg w) 3 T.f__law_book_of T.fd__law_book_of P__law_book_of sp_law_book_of := by
  refine Rz.Fun.okN T.F__law_book_of sc_law_book_of (fun vs H Q E h => ?_) (fun cdv A outer s H vs Q E hr h => ?_)
  · obtain ⟨d, z, rfl, _⟩ := h
    rfl
  obtain ⟨d, z, rfl, hz3, hz, hD, k⟩ := h
  have nd := sc_law_book_of.nd
  have two : (2 : Nat) ≤ sizeLine := by decide
  refine ⟨_, (pss_cons (ps_set (i := 2) nd rfl (Or.inl rfl) (pe_lst (pa_cons pe_str (pa_cons pe_str (pa_cons pe_str (pa_cons pe_str (pa_cons pe_str (pa_cons pe_str (pa_cons pe_str (pa_cons pe_str pa_nil))))))))))
    (pss_cons (ps_set (i := 2) nd rfl (Or.inl rfl) (pe_op op_cat (pv 2) (pe_lst (pa_cons pe_str (pa_cons pe_str (pa_cons pe_str (pa_cons pe_str pa_nil)))))))
    (pss_cons (ps_set (i := 3) nd rfl (Or.inl rfl) (pe_fn (ok_law_pick T) (hr.mono (by decide)) (by rfl) T.m__law_pick T.F__law_pick.kp T.b__law_pick .nil (fun _ => atN _) (pa_cons (pv 0) (pa_cons pe_int pa_nil))))
    (pss_cons (ps_if (pt_cmpR op_eq (pv 3) pe_int (nomark _)) (pss_cons (ps_set (i := 4) nd rfl (Or.inl rfl) (pe_ix ix_list (pv 2) (pe_fn (ok_law_pick T) (hr.mono (by decide)) (by rfl) T.m__law_pick T.F__law_pick.kp T.b__law_pick .nil (fun _ => atN _) (pa_cons (pv 0) (pa_cons (pe_callB call_lenS (by rfl) T.n_len PySem.boot_len (pa_cons (pv 2) pa_nil)) pa_nil))) (fun _ _ => rfl)))
      (pss_cons (ps_for PassesOwn.never rfl (pi_range1 rfl T.n_range (pa_cons pe_int pa_nil)) (pg_name (i := 5) nd rfl (Or.inl rfl))
        (pss_one (ps_set (i := 4) nd rfl (Or.inl rfl) (pe_rep2 (pv 4) (pk_ixc (pv 5) (fun _ _ => rfl)) (pk_ix (pv 1) (pv 5) (fun _ _ => rfl))))))
      (pss_one (ps_ret (pe_lc (own := [("_law_part", 6)]) (g := (gName 6)) (tt := tYes) rfl nd (pi_list (pe_split (pv 4) pe_str)) (blkOk_by (N := N__law_book_of) (sc := defScope s__law_book_of) (by decide +kernel)) (fun _ _ _ _ _ => (pg_name (i := 6) nd rfl (Or.inl rfl))) (fun _ _ _ _ _ => pts_nil) (fun _ _ _ _ _ => (pe_tup (pa_cons (pe_ix (show IxR _ (rIxL K) from ix_list) (pe_split (pv 6) pe_str) pe_int (fun _ _ => rfl)) (pa_cons (pe_ix (show IxR _ (rIxL K) from ix_list) (pe_split (pv 6) pe_str) pe_int (fun _ _ => rfl)) pa_nil))))))))) pss_nil)
    (pss_cons (ps_set (i := 7) nd rfl (Or.inl rfl) (pe_fn (ok_law_pick T) (hr.mono (by decide)) (by rfl) T.m__law_pick T.F__law_pick.kp T.b__law_pick .nil (fun _ => atN _) (pa_cons (pv 0) (pa_cons pe_int pa_nil))))
    (C8.pss_cut (ps_if (PW.pt (pw_and (pt_cmpR op_eq (pv 3) pe_int (nomark _)) (pw_and1 (pt_cmpR op_eq (pe_fn (ok_law_pick T) (hr.mono (by decide)) (by rfl) T.m__law_pick T.F__law_pick.kp T.b__law_pick .nil (fun _ => atN _) (pa_cons (pv 0) (pa_cons pe_int pa_nil))) pe_int (nomark _))))) (pss_one (ps_set (i := 7) nd rfl (Or.inl rfl) (pe_op op_add pe_int (pe_fn (ok_law_pick T) (hr.mono (by decide)) (by rfl) T.m__law_pick T.F__law_pick.kp T.b__law_pick .nil (fun _ => atN _) (pa_cons (pv 0) (pa_cons pe_int pa_nil)))))) pss_nil)
    (pss_cons (ps_set (i := 8) nd rfl (Or.inl rfl) (pe_lst pa_nil))
    (pss_cons (ps_for PassesOwn.never rfl (pi_range1 rfl T.n_range (pa_cons (pv 7) pa_nil)) (pg_name (i := 5) nd rfl (Or.inl rfl))
      (pss_cons (ps_set (i := 9) nd rfl (Or.inl rfl) (pe_fn (ok_law_word_of T) (hr.mono (by decide)) (by rfl) T.m__law_word_of T.F__law_word_of.kp T.b__law_word_of .nil (fun _ => atN _) (pa_cons (pv 0) (pa_cons (pv 1) (pa_cons pe_int (pa_cons pe_int pa_nil))))))
      (pss_one (ps_expr (pe_bm PySem.F.plainAttrs_list PySem.F.slot_list_append PySem.F.type_list_append mt_append (pv 8) (pa_cons (pe_tup (pa_cons (pv 9) (pa_cons (pe_fn (ok_law_word_of T) (hr.mono (by decide)) (by rfl) T.m__law_word_of T.F__law_word_of.kp T.b__law_word_of .nil (fun _ => atN _) (pa_cons (pv 0) (pa_cons (pv 1) (pa_cons pe_int (pa_cons pe_int pa_nil))))) pa_nil))) pa_nil))))))
    (pss_one (ps_ret (pv 8))))))))))), ?_⟩
  refine ⟨by show 8 ≤ sizeLine; decide, fun p0 hp0 => ?_⟩
  have S0 := Rz.Same.new (o := .lst [.str "01:1", .str "00:010", .str "01:110", .str "01:10", .str "00:1 11:0", .str "01: 10:", .str "0:12 21:0", .str "00:0"]) (Same.refl H) hp0
  have e0 : upd H p0 (.lst [.str "01:1", .str "00:010", .str "01:110", .str "01:10", .str "00:1 11:0", .str "01: 10:", .str "0:12 21:0", .str "00:0"]) p0 = some (.lst (planL.map V.str)) := upd_same
  generalize upd H p0 (.lst [.str "01:1", .str "00:010", .str "01:110", .str "01:10", .str "00:1 11:0", .str "01: 10:", .str "0:12 21:0", .str "00:0"]) = H0 at S0 e0
  refine ⟨_, rfl, by show 4 ≤ sizeLine; decide, fun p1 hp1 => ?_⟩
  have S1 := Rz.Same.new (o := .lst [.str "001:10", .str "010:1001", .str "0:1 1:2", .str "00:12 2:"]) (Same.refl H0) hp1
  have e1 : upd H0 p1 (.lst [.str "001:10", .str "010:1001", .str "0:1 1:2", .str "00:12 2:"]) p1 = some (.lst (planM.map V.str)) := upd_same
  have e01 := S1 _ _ e0
  generalize upd H0 p1 (.lst [.str "001:10", .str "010:1001", .str "0:1 1:2", .str "00:12 2:"]) = H0' at S1 e1 e01
  refine ⟨p0, p1, planL.map V.str, planM.map V.str, rfl, rfl, e01, e1, by show 8 + 4 ≤ sizeLine; decide, fun p hp => ?_⟩
  have S2 := Rz.Same.new (o := .lst (planL.map V.str ++ planM.map V.str)) (S0.trans S1) hp
  have ep : upd H0' p (.lst (planL.map V.str ++ planM.map V.str)) p = some (.lst ((planTab.map planT).map V.str)) := by
    rw [upd_same, ← List.map_append, plan_texts]
  have hpn := (S0.trans S1).free hp
  have hdp : d ≠ p := apartNew hD.some hpn
  generalize upd H0' p (.lst (planL.map V.str ++ planM.map V.str)) = H1 at S2 ep
  clear S1 S0 e0 hp0 hp1 hp e1 e01
  have D1 := hD.same S2
  have B1 : But [d] H H1 := But.of S2
  refine ⟨_, rfl, d, 3, rfl, by decide, D1, fun H2 kd kd0 kd1 D2 B2 => ?_⟩
  have ep2 := B2.at ep (nin1 (Ne.symm hdp))
  have B02 := B1.trans B2
  refine ⟨_, rfl, rfl, _, rfl, ite2 (fun hk => ?_) (fun hk => ?_)⟩
  · refine ⟨_, rfl, _, rfl, _, rfl, lenS_go (SqL.of ep2) ?_⟩
    have ln : (((planTab.map planT).map V.str).length : Nat) = 12 := by rw [List.length_map, List.length_map]; rfl
    refine ⟨d, _, rfl, by rw [ln]; decide, D2, fun H3 r r0 r1 D3 B3 => ?_⟩
    obtain ⟨v, hv, hat⟩ := atI_in (xs := (planTab.map planT).map V.str) r0 r1
    obtain ⟨t, ht, rfl⟩ := List.mem_map.mp hv
    obtain ⟨rs, hrs, rfl⟩ := List.mem_map.mp ht
    have ep3 := B3.at ep2 (nin1 (Ne.symm hdp))
    have B03 := B02.trans B3
    clear hv ht ep2 ep D2 D1 B1 B2 B3 B02
    refine ⟨p, _, r, _, rfl, rfl, SqL.of ep3, hat, ?_⟩
    obtain ⟨a, b, c, ez⟩ : ∃ a b c, z.cps.toList = [a, b, c] := by
      have hl : z.cps.toList.length = 3 := hz3
      match e : z.cps.toList, hl with
      | [a, b, c], _ => exact ⟨a, b, c, rfl⟩
    have ha : a ∈ abc.cps.toList := hz a (by rw [ez]; simp)
    have hb : b ∈ abc.cps.toList := hz b (by rw [ez]; simp)
    have hc : c ∈ abc.cps.toList := hz c (by rw [ez]; simp)
    refine ⟨3, rfl, by decide, by decide, for_range (n := 3) (fun i σ H' => ∃ v5 : Option V, σ = [some (.ref d), some (.str z), some (.ref p), some (.int kd), some (.str (mapT (subs [a, b, c] i) (planT rs))), v5, none, none, none, none] ∧ H' = H3) ⟨none, by rw [show subs [a, b, c] 0 = fun e => e from rfl, mapT_id]; rfl, rfl⟩ ?_ ?_⟩
    · rintro i σ H4 hi ⟨v5, rfl, rfl⟩
      have gi : [a, b, c].getD i 97 ∈ abc.cps.toList := by
        match i, hi with
        | 0, _ => exact ha
        | 1, _ => exact hb
        | 2, _ => exact hc
      have a1 : atI ("012" : Str).cps.toList (0 + (i : Nat) : Int) = some (48 + i) := by
        match i, hi with
        | 0, _ => decide +kernel
        | 1, _ => decide +kernel
        | 2, _ => decide +kernel
      have a2 : atI z.cps.toList (0 + (i : Nat) : Int) = some ([a, b, c].getD i 97) := by
        rw [ez]
        match i, hi with
        | 0, _ => rfl
        | 1, _ => rfl
        | 2, _ => rfl
      have zl := plan_len rs hrs
      refine ⟨_, rfl, _, rfl, _, rfl, ("012" : Str), _, _, rfl, rfl, by show 3 ≤ sizeLine; decide, a1, _, rfl, _, rfl, z, _, _, rfl, rfl, by rw [hz3]; decide, a2, _, _, rfl, rfl, ?_, ?_, ?_⟩
      · have g97 := (abc_ge _ gi).1
        refine beq_eq_false_iff_ne.mpr fun e => ?_
        have e2 := congrArg (fun x : Str => x.cps.toList) e
        have e3 : 48 + i = [a, b, c].getD i 97 := by simpa using e2
        omega
      · rw [mapT_len]
        show _ + _ * 1 ≤ _
        omega
      · rw [replace_map, mapT_mapT]
        exact ⟨some (.int (0 + (i : Nat))), rfl, rfl⟩
    · rintro σ H4 ⟨v5, rfl, rfl⟩
      have gz : ∀ x ∈ [a, b, c], 97 ≤ x := fun x hx => (abc_ge x (hz x (by rw [ez]; exact hx))).1
      have gb := plan_good hrs ha hb hc
      have em := mapT_plan (subs_out gz (e := 58) (.inr (by decide)) 3 (by decide)) (subs_out gz (e := 32) (.inl (by decide)) 3 (by decide)) rs
      obtain ⟨ne, l6, _⟩ := plan_digs rs hrs
      have zl := plan_len rs hrs
      have zm : (mapT (subs [a, b, c] 3) (planT rs)).length ≤ 20 := by rw [mapT_len]; exact zl
      generalize hqs : rs.map (mapR (subs [a, b, c] 3)) = qs at gb em
      have lq : qs.length ≤ 6 := by rw [← hqs, List.length_map]; exact l6
      have nq : qs ≠ [] := by rw [← hqs]; simpa using ne
      refine ⟨_, rfl, ⟨_, rfl⟩, _, _, rfl, rfl, rfl, by rw [sizeLine_eq]; omega, fun u hu => ?_⟩
      rw [em, planT_split gb nq]
      have Su := Rz.Same.new (o := .lst ((qs.map fun r => ruleT r.1 r.2).map V.str)) (Same.refl H4) hu
      have eu : upd H4 u (.lst ((qs.map fun r => ruleT r.1 r.2).map V.str)) u = some (.lst ((qs.map fun r => ruleT r.1 r.2).map V.str)) := upd_same
      generalize upd H4 u (.lst ((qs.map fun r => ruleT r.1 r.2).map V.str)) = H5 at Su eu
      refine ⟨u, rfl, ⟨_, SqL.of eu⟩, fun D hDn => lc_it walk_list (fun i H' => Same H5 H' ∧ SAt H' D (qs.take i)) ⟨Rz.Same.new (Same.refl H5) hDn, [], upd_same, .nil⟩ (fun i H' _ h => SqL.of (h.1 _ _ eu)) ?_ ?_⟩
      · rintro i x H6 H7 hi ⟨S6, ts, e6, P6⟩ ⟨rfl, hx⟩
        have hi2 : i < qs.length := by
          rw [List.length_map, List.length_map] at hi
          exact hi
        have ex : x = .str (ruleT qs[i].1 qs[i].2) := by
          rw [List.getElem?_map, List.getElem?_map, List.getElem?_eq_getElem hi2] at hx
          exact (Option.some.inj hx).symm
        subst ex
        have g := gb _ (List.getElem_mem hi2)
        have tl : (ruleT qs[i].1 qs[i].2).length ≤ 9 := ruleT_len (r := qs[i]) g
        refine ⟨rfl, yesT ⟨_, rfl, ⟨_, rfl⟩, _, _, rfl, rfl, rfl, by rw [sizeLine_eq]; omega, fun q1 hq1 => ?_⟩⟩
        rw [ruleT_split g]
        have SA := Rz.Same.new (o := .lst ([qs[i].1, qs[i].2].map V.str)) (Same.refl H7) hq1
        have eA : upd H7 q1 (.lst ([qs[i].1, qs[i].2].map V.str)) q1 = some (.lst ([qs[i].1, qs[i].2].map V.str)) := upd_same
        generalize upd H7 q1 (.lst ([qs[i].1, qs[i].2].map V.str)) = H8 at SA eA
        refine ⟨q1, _, _, .str qs[i].1, rfl, rfl, SqL.of eA, rfl, ?_⟩
        refine ⟨_, rfl, ⟨_, rfl⟩, _, _, rfl, rfl, rfl, by rw [sizeLine_eq]; omega, fun q2 hq2 => ?_⟩
        rw [ruleT_split g]
        have SB := Rz.Same.new (o := .lst ([qs[i].1, qs[i].2].map V.str)) SA hq2
        have eB : upd H8 q2 (.lst ([qs[i].1, qs[i].2].map V.str)) q2 = some (.lst ([qs[i].1, qs[i].2].map V.str)) := upd_same
        generalize upd H8 q2 (.lst ([qs[i].1, qs[i].2].map V.str)) = H9 at SB eB
        refine ⟨q2, _, _, .str qs[i].2, rfl, rfl, SqL.of eB, rfl, two, fun t htn => ?_⟩
        have SC := Rz.Same.new (o := .tup [.str qs[i].1, .str qs[i].2]) SB htn
        have ntD : t ≠ D := fun z => by
          rw [z, SB _ _ e6] at htn
          cases htn
        have lt := P6.len
        rw [List.length_take] at lt
        refine ⟨_, SC _ _ e6, by rw [List.length_map, sizeLine_eq]; omega, Rz.Same.upd (S6.trans SC) hDn, ts ++ [t], by rw [upd_same, List.map_append]; rfl, ?_⟩
        rw [List.take_add_one, List.getElem?_eq_getElem hi2]
        refine (P6.keep (Tups.upd (Tups.of SC) (not_tupL ⟨_, SC _ _ e6⟩))).append (.cons ?_ .nil)
        rw [upd_ne ntD, upd_same]
        rfl
      · rintro H6 ⟨S6, A6⟩
        have eq2 : ((qs.map fun r => ruleT r.1 r.2).map V.str).length = qs.length := by rw [List.length_map, List.length_map]
        rw [eq2, List.take_length] at A6
        have S46 := Su.trans S6
        have h4D : H4 D = none := Su.free hDn
        have ndD : D ≠ d := Ne.symm (apartNew D3.some h4D)
        exact k H6 D qs (D3.same S46) (B03.trans (But.of S46)) (B03.free (nin1 ndD) h4D) A6 gb lq
  · refine ⟨_, rfl, d, 4, rfl, by decide, D2, fun H3 n n0 n1 D3 B3 => ?_⟩
    have B03 := B02.trans B3
    refine ⟨fun σ H' => ∃ m : Int, σ = [some (.ref d), some (.str z), some (.ref p), some (.int kd), none, none, none, some (.int m), none, none] ∧ 0 ≤ m ∧ m ≤ 6 ∧ Dr H' d ∧ But [d] H H', ?_, ?_⟩
    · refine ⟨_, rfl, rfl, _, rfl, ite2 (fun h1 => ?_) (fun h1 => ?_)⟩
      · refine ⟨_, rfl, d, 4, rfl, by decide, D3, fun H4 q q0 q1 D4 B4 => ⟨rfl, _, rfl, ite2 (fun h2 => ?_) (fun h2 => ?_)⟩⟩
        · exact ⟨_, rfl, d, 3, rfl, by decide, D4, fun H5 r r0 r1 D5 B5 => ⟨_, _, rfl, rfl, 4 + r, rfl, by omega, by omega, D5, (B03.trans B4).trans B5⟩⟩
        · exact ⟨n, rfl, n0, by omega, D4, B03.trans B4⟩
      · exact iteF ⟨n, rfl, n0, by omega, D3, B03⟩
    rintro σ H4 ⟨m, rfl, m0, m6, D4, B4⟩
    refine ⟨by show 0 ≤ sizeLine; decide, fun l hl => ?_⟩
    have ndl : d ≠ l := apartNew D4.some hl
    have hlH : H l = none := B4.free (nin1 (Ne.symm ndl)) hl
    have D5 := D4.upd (o := .lst []) ndl
    have B5 : But [d] H (upd H4 l (.lst [])) := B4.upd (.inr hlH)
    have A5 : SAt (upd H4 l (.lst [])) l [] := ⟨[], upd_same, .nil⟩
    generalize upd H4 l (.lst []) = H5 at D5 A5 B5
    refine ⟨_, rfl, m, rfl, by omega, by omega, for_range (n := m.toNat) (fun i σ H' => ∃ (v5 v9 : Option V) (rs : List Ru), σ = [some (.ref d), some (.str z), some (.ref p), some (.int kd), none, v5, none, some (.int m), some (.ref l), v9] ∧ Dr H' d ∧ But [d] H H' ∧ SAt H' l rs ∧ GoodB rs ∧ rs.length = i)
      ⟨none, none, [], rfl, D5, B5, A5, (fun x hx => by cases hx), rfl⟩ ?_ ?_⟩
    · rintro i σ H6 hi ⟨v5, v9, rs, rfl, D6, B6, A6, g6, len6⟩
      refine ⟨_, rfl, _, rfl, d, z, 1, 4, rfl, by decide, by decide, by decide, by omega, by omega, D6, fun H7 x x1 x4 ox D7 B7 => ?_⟩
      have A7 := A6.but B7 (nin1 (Ne.symm ndl)) (drT D6 B7)
      obtain ⟨t7, e7, _⟩ := id A7
      refine ⟨_, rfl, .inl ⟨rfl, _, SqL.of e7⟩, _, rfl, _, rfl, _, rfl, d, z, 0, 4, rfl, by decide, by decide, by decide, by omega, by omega, D7, fun H8 y y1 y4 oy D8 B8 => ⟨two, fun q hq => ?_⟩⟩
      have A8 := A7.but B8 (nin1 (Ne.symm ndl)) (drT D7 B8)
      have gr := word_good hz ox oy (by omega) (by omega) (by omega)
      have S9 := Rz.Same.new (o := .tup [.str x, .str y]) (Same.refl H8) hq
      obtain ⟨ts, e8, P8⟩ := A8.same S9
      have lt := P8.len
      have D9 := D8.same S9
      have B9 : But [d] H (upd H8 q (.tup [.str x, .str y])) := ((B6.trans B7).trans B8).trans (But.of S9)
      have P9 : SdL (upd H8 q (.tup [.str x, .str y])) (ts ++ [q]) (rs ++ [(x, y)]) := SdL.append P8 (.cons upd_same .nil)
      generalize upd H8 q (.tup [.str x, .str y]) = H9 at e8 P8 D9 P9 B9
      refine ⟨l, _, .ref q, rfl, rfl, e8, by rw [List.length_map, sizeLine_eq]; omega, ?_⟩
      exact ⟨_, _, rs ++ [(x, y)], rfl, D9.upd ndl, B9.upd (.inr hlH), ⟨ts ++ [q], by rw [upd_same, List.map_append]; rfl, P9.keep (Tups.upd (Tups.of (Same.refl H9)) fun xs e => by rw [e8] at e; cases e)⟩, good_one g6 gr, by rw [List.length_append, len6]; rfl⟩
    · rintro σ H6 ⟨v5, v9, rs, rfl, D6, B6, A6, g6, len6⟩
      exact ⟨_, rfl, k H6 l rs D6 B6 hlH A6 g6 (by omega)⟩
end
end Rz

namespace Rz
open PySem PySem.Spec PyProof.Rows L2
def sp_law_is_int : Sp := fun vs H Q _ => ∃ n : Int, vs = [.int n] ∧ Q (.bl true) H
section
variable {w : World} {K : PySem.W.Frag} {mg : Str → Option Value} {base : Heap}
theorem sc_law_is_int : FnScope N__law_is_int P__law_is_int (defScope s__law_is_int) := ⟨rfl, rfl, rfl, by decide +kernel, rfl, by decide +kernel, by decide +kernel⟩
theorem ok_law_is_int (T : Txt K mg) : FnOk prg w K mg base (L2.CX prg w) 1 T.f__law_is_int T.fd__law_is_int P__law_is_int sp_law_is_int := by
  refine Rz.Fun.okN T.F__law_is_int sc_law_is_int (fun vs H Q E h => ?_) (fun cdv A outer s H vs Q E hr h => ?_)
  · obtain ⟨n, rfl, _⟩ := h
    rfl
  obtain ⟨n, rfl, k⟩ := h
  refine ⟨_, (pss_one (ps_ret (pe_and (pe_callB call_isi (by rfl) T.n_isinstance (by decide +kernel) (pa_cons (pv 0) (pa_cons (pe_bltn (v := .ty "int") (by rfl) T.n_int (by decide +kernel) rfl) pa_nil))) (pe_one (pe_not (pe_callB call_isi (by rfl) T.n_isinstance (by decide +kernel) (pa_cons (pv 0) (pa_cons (pe_bltn (v := .ty "bool") (by rfl) T.n_bool (by decide +kernel) rfl) pa_nil)))))))), ?_⟩
  refine ⟨_, rfl, _, _, .type "int", .type "int", true, rfl, .ty _, .base (.int n), kit_ty (by decide +kernel), true, rfl, ?_⟩
  exact iteT ⟨_, rfl, _, _, .type "int", .type "bool", false, rfl, .ty _, .base (.int n), kit_ty (by decide +kernel), false, rfl, k⟩
end
end Rz

namespace Rz
open PySem PySem.Spec PyProof.Rows L2
theorem cutV_any {xs : List V} {i n : Nat} : cutV xs (some (i : Int)) (some ((i + n : Nat) : Int)) = (xs.drop i).take n := by
  have e1 : HT.sIx xs.length 0 (some (i : Int)) = min i xs.length := by
    unfold HT.sIx
    simp only
    rw [if_neg (by omega), Int.toNat_natCast]
  have e2 : HT.sIx xs.length xs.length (some ((i + n : Nat) : Int)) = min (i + n) xs.length := by
    unfold HT.sIx
    simp only
    rw [if_neg (by omega), Int.toNat_natCast]
  unfold cutV
  rw [e1, e2]
  by_cases h : i ≤ xs.length
  · rw [Nat.min_eq_left h]
    by_cases h2 : i + n ≤ xs.length
    · rw [Nat.min_eq_left h2, Nat.add_sub_cancel_left]
    · rw [Nat.min_eq_right (by omega), List.take_of_length_le (by rw [List.length_drop]; exact Nat.le_refl _), List.take_of_length_le (by rw [List.length_drop]; omega)]
  · rw [List.drop_of_length_le (show xs.length ≤ min i xs.length by omega), List.drop_of_length_le (show xs.length ≤ i by omega), List.take_nil, List.take_nil]
theorem any_go {K : PySem.W.Frag} {H : Hp} {l : Addr} {us : List Pr} {Q : VK} {i n : Nat} (hu : LAt H l us) (k : ∀ (p : Addr) (H' : Hp), H p = none → Same H H' → LAt H' p ((us.drop i).take n) → Q (.ref p) H') : rSlL K (.ref l) (some (i : Int)) (some ((i + n : Nat) : Int)) H Q := by
  obtain ⟨ts, e1, P1⟩ := hu
  refine ⟨l, _, rfl, SqL.of e1, fun p hp => ?_⟩
  have S := Rz.Same.new (o := .lst (cutV (ts.map V.ref) (some (i : Int)) (some ((i + n : Nat) : Int)))) (Same.refl H) hp
  exact k p _ hp S ⟨(ts.drop i).take n, by rw [upd_same, cutV_any, List.map_take, List.map_drop], ((P1.drop i).take n).keep (Tups.of S)⟩
theorem tx_eq {ps : List Pr} {z : Str} : tx ps = z ↔ ps.map (·.1) = z.cps.toList := by
  constructor
  · intro h
    rw [← h]
    rfl
  · intro h
    unfold tx
    rw [h]
/-- the part that the rule looks at -/
def partAt (ps : List Pr) (n : Nat) (i : Int) : List Pr := if 0 ≤ i then (ps.drop i.toNat).take n else []
theorem part_fit {ps : List Pr} {l : Str} {i : Int} (hl : l.cps.toList ≠ []) : decide (tx (partAt ps l.length i) = l) = fitAt (ps.map (·.1)) l.cps.toList i := by
  unfold partAt fitAt
  by_cases h : 0 ≤ i
  · rw [if_pos h, decide_eq_true h, Bool.true_and]
    by_cases e : ((ps.map (·.1)).drop i.toNat).take l.cps.toList.length = l.cps.toList
    · rw [decide_eq_true (tx_eq.mpr (by rw [List.map_take, List.map_drop]; exact e)), e]
      simp
    · rw [decide_eq_false (fun z => e (by have := tx_eq.mp z; rw [List.map_take, List.map_drop] at this; exact this)), beq_eq_false_iff_ne.mpr e]
  · rw [if_neg h, decide_eq_false h, Bool.false_and, decide_eq_false]
    intro z
    exact hl (tx_eq.mp z).symm
def sp_law_take (K : PySem.W.Frag) : Sp := fun vs H Q _ => ∃ (lp sd : Addr) (ps : List Pr) (l r : Str) (i : Int), vs = [.ref lp, .ref sd, .int i] ∧ LAt H lp ps ∧ H sd = some (.tup [.str l, .str r]) ∧ 1 ≤ l.length ∧ l.length ≤ 1000 ∧ r.length ≤ 1000 ∧ ps.length ≤ 1000 ∧
  (fitAt (ps.map (·.1)) l.cps.toList i = false → ∀ H', Same H H' → Q .non H') ∧
  (fitAt (ps.map (·.1)) l.cps.toList i = true → ∀ H' c, Same H H' → H c = none → LAt H' c (stepTo ps l.cps.toList r.cps.toList i.toNat) → Q (.ref c) H')
section
variable {w : World} {K : PySem.W.Frag} {mg : Str → Option Value} {base : Heap}
theorem sc_law_take : FnScope N__law_take P__law_take (defScope s__law_take) := ⟨rfl, rfl, rfl, by decide +kernel, rfl, by decide +kernel, by decide +kernel⟩
theorem ok_law_take (T : Txt K mg) : FnOk prg w K mg base (L2.CX prg w) 1 T.f__law_take T.fd__law_take P__law_take (sp_law_take K) := by
  refine Rz.Fun.okN T.F__law_take sc_law_take (fun vs H Q E h => ?_) (fun cdv A outer s H vs Q E hr h => ?_)
  · obtain ⟨lp, sd, ps, l, r, i, rfl, _⟩ := h
    rfl
  obtain ⟨lp, sd, ps, l, r, i, rfl, hL, hsd, l1, l2, r2, hz, kn, kg⟩ := h
  have nd := sc_law_take.nd
  have lne := str_ne l1
  refine ⟨_, (pss_cons (ps_set (i := 3) nd rfl (Or.inl rfl) (pe_ix ix_tup (pv 1) pe_int (fun _ _ => rfl)))
    (C8.pss_cut (ps_set (i := 4) nd rfl (Or.inl rfl) (pe_ifExp (pt_cmpR op_ge (pv 2) pe_int (nomark _)) (pe_slice sl_list (pv 0) (po_some (pv 2)) (po_some (pe_op op_add (pv 2) (pe_callB call_len_str (by rfl) T.n_len PySem.boot_len (pa_cons (pv 3) pa_nil))))) (pe_lst pa_nil)))
    (pss_cons (ps_if (pt_cmpR op_ne (pe_join pe_str (pe_lc (own := [("_law_sign", 5), ("_law_height", 6)]) (g := gTup K 2 (gCons (gName 5) (gCons (gName 6) gNil))) (tt := tYes) rfl nd (pi_list (pv 4)) (blkOk_by (N := N__law_take) (sc := defScope s__law_take) (by decide +kernel)) (fun _ _ _ _ _ => (pg_tup rfl (pgs_cons (pg_name (i := 5) nd rfl (Or.inl rfl)) (pgs_cons (pg_name (i := 6) nd rfl (Or.inl rfl)) pgs_nil)))) (fun _ _ _ _ _ => pts_nil) (fun _ _ _ _ _ => (pv 5)))) (pv 3) (nomark _)) (pss_one (ps_ret pe_non)) pss_nil)
    (pss_cons (ps_set (i := 7) nd rfl (Or.inr rfl) (pe_callB (cr_min (by rfl)) (by rfl) T.n_min (by decide +kernel) (pa_cons (pe_lc (own := [("_law_sign", 5), ("_law_height", 6)]) (g := gTup K 2 (gCons (gName 5) (gCons (gName 6) gNil))) (tt := tYes) rfl nd (pi_list (pv 4)) (blkOk_by (N := N__law_take) (sc := defScope s__law_take) (by decide +kernel)) (fun _ _ _ _ _ => (pg_tup rfl (pgs_cons (pg_name (i := 5) nd rfl (Or.inl rfl)) (pgs_cons (pg_name (i := 6) nd rfl (Or.inl rfl)) pgs_nil)))) (fun _ _ _ _ _ => pts_nil) (fun _ _ _ _ _ => (pv 6))) pa_nil)))
    (pss_one (ps_ret (pe_op op_cat (pe_op op_cat (pe_slice sl_list (pv 0) po_none (po_some (pv 2))) (pe_lc (own := [("_law_sign", 5)]) (g := (gName 5)) (tt := tYes) rfl nd (pi_str (pe_ix ix_tup (pv 1) pe_int (fun _ _ => rfl))) (blkOk_by (N := N__law_take) (sc := defScope s__law_take) (by decide +kernel)) (fun _ _ _ _ _ => (pg_name (i := 5) nd rfl (Or.inl rfl))) (fun _ _ _ _ _ => pts_nil) (fun _ _ _ _ _ => (pe_tup (pa_cons (pv 5) (pa_cons (pe_op op_add (pv 7) pe_int) pa_nil)))))) (pe_slice sl_list (pv 0) (po_some (pe_op op_add (pv 2) (pe_callB call_len_str (by rfl) T.n_len PySem.boot_len (pa_cons (pv 3) pa_nil)))) po_none)))))))), ?_⟩
  have hll : l.length ≤ sizeLine := by rw [sizeLine_eq]; omega
  refine ⟨_, rfl, sd, _, _, _, rfl, rfl, SqT.of hsd, rfl, ?_⟩
  refine ⟨fun σ H' => ∃ D, σ = [some (.ref lp), some (.ref sd), some (.int i), some (.str l), some (.ref D), none, none, none] ∧ Same H H' ∧ LAt H' D (partAt ps l.length i), ?_, ?_⟩
  · refine ⟨_, rfl, _, _, rfl, rfl, _, rfl, ?_⟩
    refine ite2 (fun h0 => ?_) (fun h0 => ?_)
    · have i0 : 0 ≤ i := of_decide_eq_true h0
      obtain ⟨n, rfl⟩ := Int.eq_ofNat_of_zero_le i0
      refine ⟨_, rfl, _, rfl, _, rfl, _, rfl, _, rfl, l, rfl, hll, _, _, rfl, rfl, _, rfl, any_go (i := n) (n := l.length) hL fun D H' fD S LD => ⟨D, rfl, S, ?_⟩⟩
      unfold partAt
      rw [if_pos i0, Int.toNat_natCast]
      exact LD
    · have i0 : ¬ 0 ≤ i := fun z => h0 (decide_eq_true z)
      refine ⟨Nat.zero_le _, fun D hD => ⟨D, rfl, Rz.Same.new (Same.refl H) hD, [], upd_same, ?_⟩⟩
      unfold partAt
      rw [if_neg i0]
      exact .nil
  rintro σ H1 ⟨D, rfl, S1, LD⟩
  have zpart : (partAt ps l.length i).length ≤ 1000 := by
    unfold partAt
    split
    · rw [List.length_take, List.length_drop]
      omega
    · exact Nat.zero_le _
  have pf := part_fit (ps := ps) (l := l) (i := i) lne
  generalize hpt : partAt ps l.length i = part at LD zpart pf
  obtain ⟨td, hd, _⟩ := id LD
  have zs : part.length ≤ sizeLine := by rw [sizeLine_eq]; omega
  refine ⟨⟨_, rfl⟩, _, rfl, D, rfl, ⟨_, SqL.of hd⟩, fun D2 hD2 => lc_pairs (K := K) (l := D) (ps := part) (fun q => .str ⟨#[q.1]⟩) LD zs hD2 ?_ ?_⟩
  · intro t q H2 Q2 _ S e c
    exact ⟨t, _, rfl, SqT.of e, rfl, _, _, rfl, _, _, rfl, rfl, rfl, _, rfl, c _ (Same.refl _)⟩
  intro H2 S2 e2
  have e2' : part.map (fun q => V.str ⟨#[q.1]⟩) = (part.map fun q => (⟨#[q.1]⟩ : Str)).map V.str := by rw [List.map_map]; rfl
  rw [e2'] at e2
  refine ⟨_, D2, _, rfl, rfl, .inl (SqL.of e2), ?_, ?_⟩
  · rw [sum_ones (fun y hy => by obtain ⟨q, _, rfl⟩ := List.mem_map.mp hy; rfl), List.length_map]
    show _ + _ * 0 ≤ _
    omega
  rw [join_signs]
  refine ⟨_, rfl, rfl, _, rfl, ?_⟩
  have ed : decide (V.str (tx part) = V.str l) = fitAt (ps.map (·.1)) l.cps.toList i := by
    rw [← pf]
    by_cases e : tx part = l
    · rw [decide_eq_true e, decide_eq_true (by rw [e])]
    · rw [decide_eq_false e, decide_eq_false (fun z => e (by injection z))]
  rw [ed]
  have S12 := S1.trans S2
  cases hf : fitAt (ps.map (·.1)) l.cps.toList i with
  | false => exact iteT (kn hf H2 S12)
  | true =>
    refine iteF ?_
    have i0 := (fit_iff.mp hf).1
    obtain ⟨n, rfl⟩ := Int.eq_ofNat_of_zero_le i0
    have hen := fit_len hf lne
    rw [Int.toNat_natCast, List.length_map, len_list] at hen
    have ept : part = (ps.drop n).take l.length := by
      rw [← hpt]
      unfold partAt
      rw [if_pos i0, Int.toNat_natCast]
    obtain ⟨te, he, _⟩ := id (LD.same S2)
    refine ⟨_, rfl, D, rfl, ⟨_, SqL.of he⟩, fun D3 hD3 => lc_pairs (K := K) (l := D) (ps := part) (fun q => .int q.2) (LD.same S2) zs hD3 ?_ ?_⟩
    · intro t q H3 Q2 _ S e c
      exact ⟨t, _, rfl, SqT.of e, rfl, _, _, rfl, _, _, rfl, rfl, rfl, _, rfl, c _ (Same.refl _)⟩
    intro H3 S3 e3
    have e3' : H3 D3 = some (.lst ((hts part).map V.int)) := by
      rw [e3]
      unfold hts
      rw [List.map_map]
      rfl
    refine ⟨D3, _, rfl, SqL.of e3', by rw [hts_len, ept, List.length_take, List.length_drop]; omega, fun mm hm hall => ?_⟩
    have emm : mm = leastAt ps n l.length := by
      rw [leastL_eq hm hall, ept]
      rfl
    subst emm
    have S13 := S12.trans S3
    clear hm hall e3 e3'
    refine ⟨_, rfl, _, rfl, n, rfl, to_go (hL.same S13) (by omega) fun c1 H4 f4 S4 C1 => ?_⟩
    refine ⟨_, rfl, sd, _, _, _, rfl, rfl, SqT.of ((S13.trans S4) _ _ hsd), rfl, r, rfl, fun D5 hD5 => lc_it walk_str (fun j H5 => Same H4 H5 ∧ LAt H5 D5 (fresh (r.cps.toList.take j) (1 + leastAt ps n l.length))) ⟨Rz.Same.new (Same.refl _) hD5, [], upd_same, .nil⟩ (fun _ _ _ _ => True.intro) ?_ ?_⟩
    · rintro j x H5 H6 hj ⟨S5, L5⟩ ⟨rfl, c, hc, rfl⟩
      have hc' : r.cps.toList[j]? = some c := by
        rw [← hc]
        exact Array.getElem?_toList ..
      have et : fresh (r.cps.toList.take (j + 1)) (1 + leastAt ps n l.length) = fresh (r.cps.toList.take j) (1 + leastAt ps n l.length) ++ [(c, 1 + leastAt ps n l.length)] := by
        rw [List.take_add_one, hc']
        unfold fresh
        rw [List.map_append]
        rfl
      obtain ⟨ts, e5, P5⟩ := id L5
      have l5 := P5.length
      rw [fresh_len, List.length_take] at l5
      refine ⟨rfl, yesT ⟨_, rfl, _, rfl, _, _, rfl, rfl, by show 2 ≤ sizeLine; decide, fun u hu => ?_⟩⟩
      have Su := Rz.Same.new (o := .tup [.str ⟨#[c]⟩, .int (leastAt ps n l.length + 1)]) (Same.refl H6) hu
      have nuD : u ≠ D5 := fun z => by rw [z, e5] at hu; cases hu
      refine ⟨_, Su _ _ e5, by rw [List.length_map, sizeLine_eq]; have : r.cps.toList.length = r.length := rfl; omega, Rz.Same.upd (S5.trans Su) hD5, ts ++ [u], by rw [upd_same, List.map_append]; rfl, ?_⟩
      rw [et]
      have T5 : Tups H6 (upd (upd H6 u (.tup [.str ⟨#[c]⟩, .int (leastAt ps n l.length + 1)])) D5 (.lst (ts.map V.ref ++ [.ref u]))) := Tups.upd (Tups.of Su) (not_tupL ⟨_, Su _ _ e5⟩)
      refine (P5.keep T5).append (.cons ?_ .nil)
      rw [upd_ne nuD, upd_same]
      show some (HO.tup [.str ⟨#[c]⟩, .int (leastAt ps n l.length + 1)]) = some (.tup [.str ⟨#[c]⟩, .int (1 + leastAt ps n l.length)])
      rw [Int.add_comm]
    rintro H6 ⟨S6, L6⟩
    have er : r.cps.toList.take r.cps.size = r.cps.toList := List.take_of_length_le (Nat.le_refl _)
    rw [er] at L6
    have lf : (fresh r.cps.toList (1 + leastAt ps n l.length)).length = r.length := fresh_len ..
    refine cat_go (C1.same S6) L6 (by rw [lf, List.length_take]; omega) fun c2 H7 f7 S7 C2 => ?_
    have S17 := (S13.trans S4).trans (S6.trans S7)
    refine ⟨_, rfl, _, rfl, _, rfl, l, rfl, hll, _, _, rfl, rfl, ?_⟩
    refine ⟨((n + l.length : Nat) : Int), rfl, from_go (i := n + l.length) (hL.same S17) hen fun c3 H8 f8 S8 C3 => cat_go (C2.same S8) C3 (by rw [List.length_append, lf, List.length_take, List.length_drop]; omega) fun c4 H9 f9 S9 C4 => ?_⟩
    exact kg hf H9 c4 (S17.trans (S8.trans S9)) ((S17.trans S8).free f9) C4
end
end Rz

namespace Rz
open PySem PySem.Spec PyProof.Rows L2
def sp_law_lines_of : Sp := fun vs H Q _ => ∃ (l : Addr) (rs : List Ru), vs = [.ref l] ∧ SAt H l rs ∧ GoodB rs ∧ rs.length ≤ 6 ∧ ∀ H', Same H H' → Q (.str (wrT rs)) H'
theorem ruleT_eq (l r : Str) : l ++ ":" ++ r = ruleT l r := by
  have a : (l ++ ":" ++ r).cps.toList = (ruleT l r).cps.toList := by
    unfold ruleT
    show ((l.cps ++ (":" : Str).cps) ++ r.cps).toList = (((Str.empty.cps ++ l.cps) ++ (":" : Str).cps) ++ r.cps).toList
    rw [Array.toList_append, Array.toList_append, Array.toList_append, Array.toList_append, Array.toList_append]
    rfl
  have d := Array.toList_inj.mp a
  generalize l ++ ":" ++ r = x at d
  generalize ruleT l r = y at d
  cases x
  cases y
  exact congrArg Str.mk d
section
variable {w : World} {K : PySem.W.Frag} {mg : Str → Option Value} {base : Heap}
theorem sc_law_lines_of : FnScope N__law_lines_of P__law_lines_of (defScope s__law_lines_of) := ⟨rfl, rfl, rfl, by decide +kernel, rfl, by decide +kernel, by decide +kernel⟩
theorem ok_law_lines_of (T : Txt K mg) : FnOk prg w K mg base (L2.CX prg w) 1 T.f__law_lines_of T.fd__law_lines_of P__law_lines_of sp_law_lines_of := by
  refine Rz.Fun.okN T.F__law_lines_of sc_law_lines_of (fun vs H Q E h => ?_) (fun cdv A outer s H vs Q E hr h => ?_)
  · obtain ⟨l, rs, rfl, _⟩ := h
    rfl
  obtain ⟨l, rs, rfl, hS, hg, h6, k⟩ := h
  have nd := sc_law_lines_of.nd
  refine ⟨_, (pss_one (ps_ret (pe_join pe_str (pe_lc (own := [("_law_left", 1), ("_law_right", 2)]) (g := gTup K 2 (gCons (gName 1) (gCons (gName 2) gNil))) (tt := tYes) rfl nd (pi_list (pv 0)) (blkOk_by (N := N__law_lines_of) (sc := defScope s__law_lines_of) (by decide +kernel)) (fun _ _ _ _ _ => (pg_tup rfl (pgs_cons (pg_name (i := 1) nd rfl (Or.inl rfl)) (pgs_cons (pg_name (i := 2) nd rfl (Or.inl rfl)) pgs_nil)))) (fun _ _ _ _ _ => pts_nil) (fun _ _ _ _ _ => (pe_op op_add_str (pe_op op_add_str (pv 1) pe_str) (pv 2))))))), ?_⟩
  obtain ⟨ts, hl, hP⟩ := id hS
  refine ⟨⟨_, rfl⟩, _, rfl, l, rfl, ⟨_, SqL.of hl⟩, fun D hD => lc_sides (K := K) (l := l) (rs := rs) (fun r => .str (ruleT r.1 r.2)) hS (by rw [sizeLine_eq]; omega) hD ?_ ?_⟩
  · intro t r H2 Q2 hr2 S e c
    have gl := good_len (hg r hr2)
    refine ⟨t, _, rfl, SqT.of e, rfl, _, _, rfl, _, _, rfl, rfl, rfl, _, rfl, _, _, rfl, rfl, by show r.1.length + 1 ≤ _; rw [sizeLine_eq]; omega, _, rfl, _, _, rfl, rfl, by rw [Str.length_append]; show r.1.length + 1 + _ ≤ _; rw [sizeLine_eq]; omega, ?_⟩
    rw [ruleT_eq]
    exact c _ (Same.refl _)
  intro H2 S2 e2
  have e2' : rs.map (fun r => V.str (ruleT r.1 r.2)) = (rs.map fun r => ruleT r.1 r.2).map V.str := by rw [List.map_map]; rfl
  rw [e2'] at e2
  refine ⟨_, D, _, rfl, rfl, .inl (SqL.of e2), ?_, k H2 S2⟩
  have := ruleT_sum hg
  rw [List.length_map]
  show _ + _ * 1 ≤ _
  omega
end
end Rz

namespace Rz
open PySem PySem.Spec PyProof.Rows L2
def sp_law_as_row (cR : Addr) : Sp := fun vs H Q _ => ∃ (l : Addr) (ps : List Pr), vs = [.ref l] ∧ LAt H l ps ∧ GoodR ps ∧ ps.length ≤ 100000 ∧ ∀ H' p m, Same H H' → H p = none → H m = none → RAt cR H' p m ps → Q (.ref p) H'
section
variable {w : World} {K : PySem.W.Frag} {mg : Str → Option Value} {base : Heap}
theorem sc_law_as_row : FnScope N__law_as_row P__law_as_row (defScope s__law_as_row) := ⟨rfl, rfl, rfl, by decide +kernel, rfl, by decide +kernel, by decide +kernel⟩
theorem ok_law_as_row (T : Txt K mg) : FnOk prg w K mg base (L2.CX prg w) 6 T.f__law_as_row T.fd__law_as_row P__law_as_row (sp_law_as_row T.c_Row) := by
  refine Rz.Fun.okN T.F__law_as_row sc_law_as_row (fun vs H Q E h => ?_) (fun cdv A outer s H vs Q E hr h => ?_)
  · obtain ⟨l, ps, rfl, _⟩ := h
    rfl
  obtain ⟨l, ps, rfl, hL, hg, hz, k⟩ := h
  have nd := sc_law_as_row.nd
  obtain ⟨ds, vd, bd⟩ := bd_Row_init_3 T
  cases vd
  refine ⟨_, (pss_one (ps_ret (pe_mk ⟨T.mk_Row, T.M_Row_init.at_, T.M_Row_init.fn, T.kp_Row⟩ (ok_Row_init T) (hr.mono (by decide)) (by rfl) T.m_Row bd .nil (fun _ => atN _) (pa_cons (pe_join pe_str (pe_lc (own := [("_law_pair", 1)]) (g := (gName 1)) (tt := tYes) rfl nd (pi_list (pv 0)) (blkOk_by (N := N__law_as_row) (sc := defScope s__law_as_row) (by decide +kernel)) (fun _ _ _ _ _ => (pg_name (i := 1) nd rfl (Or.inl rfl))) (fun _ _ _ _ _ => pts_nil) (fun _ _ _ _ _ => (pe_ix (show IxR _ (rIxT K) from ix_tup) (pv 1) pe_int (fun _ _ => rfl))))) (pa_cons (pe_lc (own := [("_law_pair", 1)]) (g := (gName 1)) (tt := tYes) rfl nd (pi_list (pv 0)) (blkOk_by (N := N__law_as_row) (sc := defScope s__law_as_row) (by decide +kernel)) (fun _ _ _ _ _ => (pg_name (i := 1) nd rfl (Or.inl rfl))) (fun _ _ _ _ _ => pts_nil) (fun _ _ _ _ _ => (pe_ix (show IxR _ (rIxT K) from ix_tup) (pv 1) pe_int (fun _ _ => rfl)))) pa_nil))))), ?_⟩
  obtain ⟨ts, hl, hP⟩ := id hL
  have zs : ps.length ≤ sizeLine := by rw [sizeLine_eq]; omega
  refine ⟨⟨_, rfl⟩, _, rfl, l, rfl, ⟨_, SqL.of hl⟩, fun D hD => lc_pairs (K := K) (l := l) (ps := ps) (fun q => .str ⟨#[q.1]⟩) hL zs hD ?_ ?_⟩
  · intro t q H2 Q2 _ S e c
    exact ⟨rfl, _, rfl, t, _, _, _, rfl, rfl, SqT.of e, rfl, c _ (Same.refl _)⟩
  intro H2 S2 e2
  have e2' : ps.map (fun q => V.str ⟨#[q.1]⟩) = (ps.map fun q => (⟨#[q.1]⟩ : Str)).map V.str := by rw [List.map_map]; rfl
  rw [e2'] at e2
  refine ⟨_, D, _, rfl, rfl, .inl (SqL.of e2), ?_, ?_⟩
  · rw [sum_ones (fun y hy => by obtain ⟨q, _, rfl⟩ := List.mem_map.mp hy; rfl), List.length_map]
    show _ + _ * 0 ≤ _
    omega
  rw [join_signs]
  have hL2 := hL.same S2
  refine ⟨_, rfl, l, rfl, ⟨_, SqL.of (S2 _ _ hl)⟩, fun D2 hD2 => lc_pairs (K := K) (l := l) (ps := ps) (fun q => .int q.2) hL2 zs hD2 ?_ ?_⟩
  · intro t q H3 Q2 _ S e c
    exact ⟨rfl, _, rfl, t, _, _, _, rfl, rfl, SqT.of e, rfl, c _ (Same.refl _)⟩
  intro H3 S3 e3
  have e3' : H3 D2 = some (.lst ((hts ps).map V.int)) := by
    rw [e3]
    unfold hts
    rw [List.map_map]
    rfl
  intro x dx hx hdx ndx
  have S03 := S2.trans S3
  have nxD : D2 ≠ x := ne_of_none e3' hx
  have ndD : D2 ≠ dx := ne_of_none e3' hdx
  have small : ∀ n ∈ hts ps, n.natAbs < 2 ^ 64 := fun n hn => by
    obtain ⟨q, hq, rfl⟩ := List.mem_map.mp hn
    have := (hg q hq).2
    omega
  refine ⟨x, dx, tx ps, _, hts ps, rfl, by rw [tx_len]; omega, upd_same, .inr ⟨D2, rfl, by rw [upd_ne nxD, upd_ne ndD]; exact e3', by rw [hts_len]; omega, small⟩, ?_⟩
  rw [rr_good hg, tx_hts_zip]
  intro H4 m B hm hR
  refine ⟨rfl, k H4 x m ?_ (S03.free hx) ?_ hR⟩
  · intro b o e
    have e1 := S03 _ _ e
    exact B b o (by have := ne_of_none e1 hx; simpa using this) (by rw [upd_ne (ne_of_none e1 hx), upd_ne (ne_of_none e1 hdx)]; exact e1)
  · cases q : H m with
    | none => rfl
    | some o =>
      have e1 := S03 _ _ q
      rw [upd_ne (ne_of_none e1 hx), upd_ne (ne_of_none e1 hdx), e1] at hm
      cases hm
end
end Rz

namespace Rz
open PySem PySem.Spec PyProof.Rows L2
def sp_law_power : Sp := fun vs H Q _ => ∃ (B e : Int), vs = [.int B, .int e] ∧ 0 ≤ B ∧ B ≤ 10 ∧ 0 ≤ e ∧ e ≤ 9 ∧ Q (.int (B ^ e.toNat)) H
section
variable {w : World} {K : PySem.W.Frag} {mg : Str → Option Value} {base : Heap}
theorem sc_law_power : FnScope N__law_power P__law_power (defScope s__law_power) := ⟨rfl, rfl, rfl, by decide +kernel, rfl, by decide +kernel, by decide +kernel⟩
theorem ok_law_power (T : Txt K mg) : FnOk prg w K mg base (L2.CX prg w) 1 T.f__law_power T.fd__law_power P__law_power sp_law_power := by
  refine Rz.Fun.okN T.F__law_power sc_law_power (fun vs H Q E h => ?_) (fun cdv A outer s H vs Q E hr h => ?_)
  · obtain ⟨B, e, rfl, _⟩ := h
    rfl
  obtain ⟨B, e, rfl, b0, b1, e0, e1, k⟩ := h
  have nd := sc_law_power.nd
  refine ⟨_, (pss_cons (ps_set (i := 2) nd rfl (Or.inl rfl) pe_int)
    (pss_cons (ps_for PassesOwn.never rfl (pi_range1 rfl T.n_range (pa_cons (pv 1) pa_nil)) (pg_name (i := 3) nd rfl (Or.inl rfl))
      (pss_one (ps_set (i := 2) nd rfl (Or.inl rfl) (pe_op op_mul (pv 2) (pv 0)))))
    (pss_one (ps_ret (pv 2))))), ?_⟩
  refine ⟨_, rfl, e, rfl, by omega, by omega, for_range (n := e.toNat) (fun i σ H' => ∃ v3 : Option V, σ = [some (.int B), some (.int e), some (.int (B ^ i)), v3] ∧ H' = H) ⟨none, by rw [show B ^ 0 = 1 from Int.pow_zero _]; rfl, rfl⟩ ?_ ?_⟩
  · rintro i σ H2 hi ⟨v3, rfl, rfl⟩
    exact ⟨_, rfl, _, rfl, _, _, rfl, rfl, .inr ⟨by omega, by omega⟩, some (.int (0 + (i : Nat))), by rw [show B ^ (i + 1) = B ^ i * B from Int.pow_succ _ _]; rfl, rfl⟩
  · rintro σ H2 ⟨v3, rfl, rfl⟩
    exact ⟨_, rfl, k⟩
end
end Rz

namespace Rz
open PySem PySem.Spec PyProof.Rows L2
/-- what is due for the weight -/
def owOf (rs : List Ru) (ps : List Pr) (b : Int) : Str × Int := if 0 ≤ b ∧ b ≤ 9 then (if b < mostH ps then ("top", mostH ps) else ("weight", wt (baseR rs) b ps)) else ("bound", b)
theorem zero_most {ns : List Int} {m : Int} (hm : m ∈ 0 :: ns) (h : ∀ y ∈ (0 :: ns : List Int), y ≤ m) : m = ns.foldr max 0 := by
  have a := fold_most hm h (h 0 List.mem_cons_self)
  have b := fold_pos (ns := ns)
  have c : (0 :: ns : List Int).foldr max 0 = max 0 (ns.foldr max 0) := rfl
  omega
def sp_law_due_of : Sp := fun vs H Q _ => ∃ (l lp : Addr) (rs : List Ru) (ps : List Pr) (b : Int), vs = [.ref l, .ref lp, .int b] ∧ SAt H l rs ∧ GoodB rs ∧ rs.length ≤ 6 ∧ LAt H lp ps ∧ GoodR ps ∧ ps.length ≤ 1000 ∧
  ∀ H' u, Same H H' → H' u = some (.tup [.str (owOf rs ps b).1, .int (owOf rs ps b).2]) → Q (.ref u) H'
section
variable {w : World} {K : PySem.W.Frag} {mg : Str → Option Value} {base : Heap}
theorem sc_law_due_of : FnScope N__law_due_of P__law_due_of (defScope s__law_due_of) := ⟨rfl, rfl, rfl, by decide +kernel, rfl, by decide +kernel, by decide +kernel⟩
theorem ok_law_due_of (T : Txt K mg) : FnOk prg w K mg base (L2.CX prg w) 2 T.f__law_due_of T.fd__law_due_of P__law_due_of sp_law_due_of := by
  refine Rz.Fun.okN T.F__law_due_of sc_law_due_of (fun vs H Q E h => ?_) (fun cdv A outer s H vs Q E hr h => ?_)
  · obtain ⟨l, lp, rs, ps, b, rfl, _⟩ := h
    rfl
  obtain ⟨l, lp, rs, ps, b, rfl, hS, hgb, h6, hL, hg, hz, k⟩ := h
  have nd := sc_law_due_of.nd
  have two : (2 : Nat) ≤ sizeLine := by decide
  have zs : ps.length ≤ sizeLine := by rw [sizeLine_eq]; omega
  refine ⟨_, (pss_cons (ps_set (i := 4) nd rfl (Or.inr rfl) (pe_callB (cr_max (by rfl)) (by rfl) T.n_max (by decide +kernel) (pa_cons (pe_op op_cat (pe_lst (pa_cons pe_int pa_nil)) (pe_lc (own := [("_law_rule", 3)]) (g := (gName 3)) (tt := tYes) rfl nd (pi_list (pv 0)) (blkOk_by (N := N__law_due_of) (sc := defScope s__law_due_of) (by decide +kernel)) (fun _ _ _ _ _ => (pg_name (i := 3) nd rfl (Or.inl rfl))) (fun _ _ _ _ _ => pts_nil) (fun _ _ _ _ _ => (pe_callB call_len_str (by rfl) T.n_len PySem.boot_len (pa_cons (pe_ix (show IxR _ (rIxT K) from ix_tup) (pv 3) pe_int (fun _ _ => rfl)) pa_nil))))) pa_nil)))
    (pss_cons (ps_if (PW.pt (pw_or (pt_cmpR op_lt (pv 2) pe_int (nomark _)) (pw_or1 (pt_cmpR op_gt (pv 2) pe_int (nomark _))))) (pss_one (ps_ret (pe_tup (pa_cons pe_str (pa_cons (pv 2) pa_nil))))) pss_nil)
    (pss_cons (ps_set (i := 6) nd rfl (Or.inl rfl) (pe_callB (cr_max (by rfl)) (by rfl) T.n_max (by decide +kernel) (pa_cons (pe_op op_cat (pe_lst (pa_cons pe_int pa_nil)) (pe_lc (own := [("_law_pair", 5)]) (g := (gName 5)) (tt := tYes) rfl nd (pi_list (pv 1)) (blkOk_by (N := N__law_due_of) (sc := defScope s__law_due_of) (by decide +kernel)) (fun _ _ _ _ _ => (pg_name (i := 5) nd rfl (Or.inl rfl))) (fun _ _ _ _ _ => pts_nil) (fun _ _ _ _ _ => (pe_ix (show IxR _ (rIxT K) from ix_tup) (pv 5) pe_int (fun _ _ => rfl))))) pa_nil)))
    (pss_cons (ps_if (pt_cmpR op_gt (pv 6) (pv 2) (nomark _)) (pss_one (ps_ret (pe_tup (pa_cons pe_str (pa_cons (pv 6) pa_nil))))) pss_nil)
    (pss_one (ps_ret (pe_tup (pa_cons pe_str (pa_cons (pe_callB (cr_sum (by rfl)) (by rfl) T.n_sum (by decide +kernel) (pa_cons (pe_lc (own := [("_law_pair", 5)]) (g := (gName 5)) (tt := tYes) rfl nd (pi_list (pv 1)) (blkOk_by (N := N__law_due_of) (sc := defScope s__law_due_of) (by decide +kernel)) (fun _ _ _ _ _ => (pg_name (i := 5) nd rfl (Or.inl rfl))) (fun _ _ _ _ _ => pts_nil) (fun _ _ _ _ _ => (pe_fn (ok_law_power T) (hr.mono (by decide)) (by rfl) T.m__law_power T.F__law_power.kp T.b__law_power .nil (fun _ => atN _) (pa_cons (pe_op op_add (pv 4) pe_int) (pa_cons (pe_op op_sub (pv 2) (pe_ix (show IxR _ (rIxT K) from ix_tup) (pv 5) pe_int (fun _ _ => rfl))) pa_nil))))) pa_nil)) pa_nil))))))))), ?_⟩
  obtain ⟨l0, l4⟩ := long_range hgb
  obtain ⟨m0, m9, mall⟩ := most_range hg
  refine ⟨by decide, fun z hz1 => ?_⟩
  have S1 := Rz.Same.new (o := .lst [.int 0]) (Same.refl H) hz1
  have ez : upd H z (.lst [.int 0]) z = some (.lst [.int 0]) := upd_same
  generalize upd H z (.lst [.int 0]) = H1 at S1 ez
  obtain ⟨ts, hl, hP⟩ := id (hS.same S1)
  refine ⟨_, rfl, l, rfl, ⟨_, SqL.of hl⟩, fun D hD => lc_sides (K := K) (l := l) (rs := rs) (fun r => .int (r.2.length : Nat)) (hS.same S1) (by rw [sizeLine_eq]; omega) hD ?_ ?_⟩
  · intro t r H2 Q2 hr2 S e c
    have gl := good_len (hgb r hr2)
    exact ⟨rfl, _, rfl, t, _, _, _, rfl, rfl, SqT.of e, rfl, r.2, rfl, by rw [sizeLine_eq]; omega, c _ (Same.refl _)⟩
  intro H2 S2 e2
  refine ⟨z, D, _, _, rfl, rfl, S2 _ _ ez, e2, ?_, fun w hw => ?_⟩
  · rw [List.length_map, sizeLine_eq]
    show 1 + rs.length ≤ _
    omega
  have Sw := Rz.Same.new (o := .lst ([V.int 0] ++ rs.map fun r => V.int (r.2.length : Nat))) (S1.trans S2) hw
  have ew : upd H2 w (.lst ([V.int 0] ++ rs.map fun r => V.int (r.2.length : Nat))) w = some (.lst ((0 :: lenR rs).map V.int)) := by
    rw [upd_same]
    unfold lenR
    rw [List.map_cons, List.map_map]
    rfl
  generalize upd H2 w (.lst ([V.int 0] ++ rs.map fun r => V.int (r.2.length : Nat))) = H3 at Sw ew
  refine ⟨w, 0 :: lenR rs, rfl, SqL.of ew, by show 0 < (lenR rs).length + 1; omega, fun mm hm hall => ?_⟩
  have emm : mm = longR rs := zero_most hm hall
  subst emm
  clear hm hall S2 e2 ez S1 hl hP ew
  have hL3 := hL.same Sw
  refine ⟨_, rfl, _, _, rfl, rfl, _, rfl, ite2 (fun h1 => ?_) (fun h1 => ⟨_, rfl, _, _, rfl, rfl, _, rfl, ite2 (fun h2 => ?_) (fun h2 => ?_)⟩)⟩
  · have q := of_decide_eq_true h1
    exact iteT ⟨_, rfl, two, fun t ht => k _ t (Rz.Same.new Sw ht) (by unfold owOf; rw [if_neg (by omega)]; exact upd_same)⟩
  · have q := of_decide_eq_true h2
    exact ⟨_, rfl, two, fun t ht => k _ t (Rz.Same.new Sw ht) (by unfold owOf; rw [if_neg (by omega)]; exact upd_same)⟩
  have hb : 0 ≤ b ∧ b ≤ 9 := by
    have q1 : ¬ b < 0 := fun z => h1 (decide_eq_true z)
    have q2 : ¬ b > 9 := fun z => h2 (decide_eq_true z)
    omega
  clear h1 h2
  refine ⟨by decide, fun z2 hz2 => ?_⟩
  have S4 := Rz.Same.new (o := .lst [.int 0]) (Same.refl H3) hz2
  have ez : upd H3 z2 (.lst [.int 0]) z2 = some (.lst [.int 0]) := upd_same
  generalize upd H3 z2 (.lst [.int 0]) = H4 at S4 ez
  obtain ⟨t4, e4, P4⟩ := id (hL3.same S4)
  refine ⟨_, rfl, lp, rfl, ⟨_, SqL.of e4⟩, fun D2 hD2 => lc_pairs (K := K) (l := lp) (ps := ps) (fun q => .int q.2) (hL3.same S4) zs hD2 ?_ ?_⟩
  · intro t q H5 Q2 _ S e c
    exact ⟨rfl, _, rfl, t, _, _, _, rfl, rfl, SqT.of e, rfl, c _ (Same.refl _)⟩
  intro H5 S5 e5
  refine ⟨z2, D2, _, _, rfl, rfl, S5 _ _ ez, e5, ?_, fun w2 hw2 => ?_⟩
  · rw [List.length_map, sizeLine_eq]
    show 1 + ps.length ≤ _
    omega
  have Sw2 := Rz.Same.new (o := .lst ([V.int 0] ++ ps.map fun q => V.int q.2)) (S4.trans S5) hw2
  have ew2 : upd H5 w2 (.lst ([V.int 0] ++ ps.map fun q => V.int q.2)) w2 = some (.lst ((0 :: hts ps).map V.int)) := by
    rw [upd_same]
    unfold hts
    rw [List.map_cons, List.map_map]
    rfl
  generalize upd H5 w2 (.lst ([V.int 0] ++ ps.map fun q => V.int q.2)) = H6 at Sw2 ew2
  refine ⟨w2, 0 :: hts ps, rfl, SqL.of ew2, by show 0 < (hts ps).length + 1; omega, fun mm hm hall => ?_⟩
  have emm : mm = mostH ps := zero_most hm hall
  subst emm
  clear hm hall S5 e5 ez S4 e4 P4 ew2
  have S06 := Sw.trans Sw2
  have hL6 := hL3.same Sw2
  refine ⟨_, rfl, _, rfl, _, _, rfl, rfl, _, rfl, ite2 (fun h3 => ?_) (fun h3 => ?_)⟩
  · have q := of_decide_eq_true h3
    exact ⟨_, rfl, two, fun t ht => k _ t (Rz.Same.new S06 ht) (by unfold owOf; rw [if_pos hb, if_pos q]; exact upd_same)⟩
  have hnf : ¬ b < mostH ps := fun z => h3 (decide_eq_true z)
  obtain ⟨t6, e6, P6⟩ := id hL6
  refine ⟨_, rfl, lp, rfl, ⟨_, SqL.of e6⟩, fun D3 hD3 => lc_pairs (K := K) (l := lp) (ps := ps) (fun q => .int (baseR rs ^ (b - q.2).toNat)) hL6 zs hD3 ?_ ?_⟩
  · intro t q H7 Q2 hq S e c
    have mq := mall q hq
    refine ⟨rfl, _, rfl, _, _, rfl, rfl, _, rfl, _, rfl, t, _, _, _, rfl, rfl, SqT.of e, rfl, _, _, rfl, rfl, longR rs + 1, b - q.2, rfl, by omega, by omega, by omega, by omega, c _ (Same.refl _)⟩
  intro H7 S7 e7
  have e7' : H7 D3 = some (.lst ((wtL (baseR rs) b ps).map V.int)) := by
    rw [e7]
    unfold wtL
    rw [List.map_map]
    rfl
  refine ⟨D3, _, rfl, SqL.of e7', two, fun t ht => k _ t (Rz.Same.new (S06.trans S7) ht) ?_⟩
  unfold owOf
  rw [if_pos hb, if_neg hnf]
  exact upd_same
end
end Rz

namespace Rz
open PySem PySem.Spec PyProof.Rows L2
def sp_law_weighed (cB cR cC : Addr) : Sp := fun vs H Q _ => ∃ (bk t p m : Addr) (rs : List Ru) (ps : List Pr) (b : Int), vs = [.ref bk, .ref p, .int b] ∧ BkAt cB cC H bk t rs ∧ GoodB rs ∧ rs.length ≤ 6 ∧ RAt cR H p m ps ∧ GoodR ps ∧ ps.length ≤ 10000 ∧ b.natAbs < 2 ^ 60 ∧
  ∀ H' u, Same H H' → H' u = some (.tup [.str (owOf rs ps b).1, .int (owOf rs ps b).2]) → Q (.ref u) H'
section
variable {w : World} {K : PySem.W.Frag} {mg : Str → Option Value} {base : Heap}
theorem sc_law_weighed : FnScope N__law_weighed P__law_weighed (defScope s__law_weighed) := ⟨rfl, rfl, rfl, by decide +kernel, rfl, by decide +kernel, by decide +kernel⟩
theorem ok_law_weighed (T : Txt K mg) : FnOk prg w K mg base (L2.CX prg w) 10 T.f__law_weighed T.fd__law_weighed P__law_weighed (sp_law_weighed T.c_Book T.c_Row T.c_Rule) := by
  refine T.F__law_weighed.okX sc_law_weighed (fun vs H Q E h => ?_) (fun cdv A outer s H vs Q E hr h => ?_)
  · obtain ⟨bk, t, p, m, rs, ps, b, rfl, _⟩ := h
    rfl
  obtain ⟨bk, t, p, m, rs, ps, b, rfl, hB, hg, h6, hR, gR, hz, hb, k⟩ := h
  have nd := sc_law_weighed.nd
  have two : (2 : Nat) ≤ sizeLine := by decide
  refine ⟨_, (pss_one (ps_try_mix rfl rfl takes0 (fun W pn xe tk _ => (pss_one (ps_ret (pe_tup (pa_cons pe_str (pa_cons (pe_mtK (pv 0) T.cl_Book T.M_Book_weight (ok_Book_weight T) (hr.mono (by decide)) (kb_weight T) (passAt tk) (pa_cons (pv 1) pa_nil) (pk_cons (pv 2) pk_nil)) pa_nil))))))
      (HdsM.named (i := 3) nd rfl rfl ⟨rfl, by decide, .inl T.m_BadBound⟩ (fun a oe cls d pn hz hf => (pss_one (ps_ret (pe_tup (pa_cons pe_str (pa_cons (pe_xf T.x_BadBound.xf T.x_BadBound.noN hz hf (pv 3)) pa_nil))))))
      (HdsM.named (i := 4) nd rfl rfl ⟨rfl, by decide, .inl T.m_BadHeight⟩ (fun a oe cls d pn hz hf => (pss_one (ps_ret (pe_tup (pa_cons pe_str (pa_cons (pe_xf T.x_BadHeight.xf T.x_BadHeight.noN hz hf (pv 4)) pa_nil))))))
      HdsM.nil)))), ?_⟩
  obtain ⟨db, tb, hbk, ht, hP⟩ := id hB
  refine ⟨_, rfl, bk, db, _, rfl, hbk, rfl, _, rfl, _, rfl, rfl, rfl, bk, t, p, m, rs, ps, b, rfl, hB, hg, h6, hR, gR, hz, hb, fun hb9 H1 d S1 hd e => ?_, fun hb9 => ⟨fun hlt H1 d S1 hd e => ?_, fun hnl H1 S1 => ?_⟩⟩
  · refine ⟨true, T.em_BadBound_BadBound, fun _ a ha => ?_, fun z => nomatch z⟩
    exact ⟨_, rfl, rfl, rfl, d, _, _, rfl, e, rfl, two, fun t ht => k _ t (Rz.Same.new S1 ht) (by unfold owOf; rw [if_neg hb9]; exact upd_same)⟩
  · refine ⟨false, T.em_BadHeight_BadBound, (fun z => nomatch z), fun _ => ⟨true, T.em_BadHeight_BadHeight, fun _ a ha => ?_, fun z => nomatch z⟩⟩
    exact ⟨_, rfl, rfl, rfl, d, _, _, rfl, e, rfl, two, fun t ht => k _ t (Rz.Same.new S1 ht) (by unfold owOf; rw [if_pos hb9, if_pos hlt]; exact upd_same)⟩
  · exact ⟨two, fun t ht => k _ t (Rz.Same.new S1 ht) (by unfold owOf; rw [if_pos hb9, if_neg hnl]; exact upd_same)⟩
end
end Rz

namespace Rz
open PySem PySem.Spec PyProof.Rows L2
def olOf (rs : List Ru) (many b : Int) : Str × Int := if 0 ≤ b ∧ b ≤ 9 then ("weight", many * baseR rs ^ b.toNat) else ("bound", b)
def sp_law_limited (cB cC : Addr) : Sp := fun vs H Q _ => ∃ (bk t : Addr) (rs : List Ru) (many b : Int), vs = [.ref bk, .int many, .int b] ∧ BkAt cB cC H bk t rs ∧ GoodB rs ∧ rs.length ≤ 6 ∧ 0 ≤ many ∧ many ≤ 1000000 ∧ b.natAbs < 2 ^ 60 ∧
  ∀ H' u, Same H H' → H' u = some (.tup [.str (olOf rs many b).1, .int (olOf rs many b).2]) → Q (.ref u) H'
section
variable {w : World} {K : PySem.W.Frag} {mg : Str → Option Value} {base : Heap}
theorem sc_law_limited : FnScope N__law_limited P__law_limited (defScope s__law_limited) := ⟨rfl, rfl, rfl, by decide +kernel, rfl, by decide +kernel, by decide +kernel⟩
theorem ok_law_limited (T : Txt K mg) : FnOk prg w K mg base (L2.CX prg w) 10 T.f__law_limited T.fd__law_limited P__law_limited (sp_law_limited T.c_Book T.c_Rule) := by
  refine T.F__law_limited.okX sc_law_limited (fun vs H Q E h => ?_) (fun cdv A outer s H vs Q E hr h => ?_)
  · obtain ⟨bk, t, rs, many, b, rfl, _⟩ := h
    rfl
  obtain ⟨bk, t, rs, many, b, rfl, hB, hg, h6, n0, n1, hb, k⟩ := h
  have nd := sc_law_limited.nd
  have two : (2 : Nat) ≤ sizeLine := by decide
  refine ⟨_, (pss_one (ps_try_mix rfl rfl takes0 (fun W pn xe tk _ => (pss_one (ps_ret (pe_tup (pa_cons pe_str (pa_cons (pe_mtK (pv 0) T.cl_Book T.M_Book_limit (ok_Book_limit T) (hr.mono (by decide)) (kb_limit T) (passAt tk) (pa_cons (pv 1) pa_nil) (pk_cons (pv 2) pk_nil)) pa_nil))))))
      (HdsM.named (i := 3) nd rfl rfl ⟨rfl, by decide, .inl T.m_BadBound⟩ (fun a oe cls d pn hz hf => (pss_one (ps_ret (pe_tup (pa_cons pe_str (pa_cons (pe_xf T.x_BadBound.xf T.x_BadBound.noN hz hf (pv 3)) pa_nil))))))
      HdsM.nil))), ?_⟩
  obtain ⟨db, tb, hbk, ht, hP⟩ := id hB
  refine ⟨_, rfl, bk, db, _, rfl, hbk, rfl, _, rfl, _, rfl, rfl, rfl, bk, t, rs, many, b, rfl, hB, hg, h6, n0, n1, hb, fun hb9 H1 d S1 hd e => ?_, fun hb9 H1 S1 => ?_⟩
  · refine ⟨true, T.em_BadBound_BadBound, fun _ a ha => ?_, fun z => nomatch z⟩
    exact ⟨_, rfl, rfl, rfl, d, _, _, rfl, e, rfl, two, fun t ht => k _ t (Rz.Same.new S1 ht) (by unfold olOf; rw [if_neg hb9]; exact upd_same)⟩
  · exact ⟨two, fun t ht => k _ t (Rz.Same.new S1 ht) (by unfold olOf; rw [if_pos hb9]; exact upd_same)⟩
end
end Rz

namespace Rz
open PySem PySem.Spec PyProof.Rows L2
/-! ### a step lowers the weight -/
theorem wt_cat (B b : Int) (ps qs : List Pr) : wt B b (ps ++ qs) = wt B b ps + wt B b qs := by
  unfold wt wtL
  rw [List.map_append, List.sum_append]
theorem pow_nn {B : Int} (h : 0 ≤ B) (n : Nat) : 0 ≤ B ^ n := Int.pow_nonneg h
theorem wt_nn {B b : Int} (h : 0 ≤ B) : ∀ ps : List Pr, 0 ≤ wt B b ps
  | [] => Int.le_refl _
  | p :: ps => by
    have a := pow_nn h (b - p.2).toNat
    have c := wt_nn (b := b) h ps
    show 0 ≤ B ^ (b - p.2).toNat + wt B b ps
    omega
theorem wt_mem {B b : Int} (h : 0 ≤ B) : ∀ {ps : List Pr} {p : Pr}, p ∈ ps → B ^ (b - p.2).toNat ≤ wt B b ps
  | q :: ps, p, hp => by
    have a := pow_nn h (b - q.2).toNat
    have c := wt_nn (b := b) h ps
    show _ ≤ B ^ (b - q.2).toNat + wt B b ps
    rcases List.mem_cons.mp hp with e | e
    · rw [e]
      omega
    · have := wt_mem (b := b) h e
      omega
theorem wt_fresh (B b h : Int) : ∀ r : List Nat, wt B b (fresh r h) = (r.length : Int) * B ^ (b - h).toNat
  | [] => by
    show (0 : Int) = ((0 : Nat) : Int) * _
    rw [Int.natCast_zero, Int.zero_mul]
  | c :: r => by
    have ih := wt_fresh B b h r
    show B ^ (b - h).toNat + wt B b (fresh r h) = (((r.length + 1 : Nat)) : Int) * _
    rw [ih, Int.natCast_add, Int.add_mul, Int.add_comm]
    congr 1
    exact (Int.one_mul _).symm
theorem long_mem {rs : List Ru} {r : Ru} (h : r ∈ rs) : (r.2.length : Int) ≤ longR rs := fold_above (List.mem_map.mpr ⟨r, h, rfl⟩)
theorem falls {ps : List Pr} {rs : List Ru} {r : Ru} {i : Nat} {b : Int} (hg : GoodR ps) (hgb : GoodB rs) (hr : r ∈ rs) (hf : fitAt (ps.map (·.1)) r.1.cps.toList (i : Int) = true) (hb : 0 ≤ b ∧ b ≤ 9) (ht : ¬ b < mostH ps) (hs : r.2 = "" ∨ leastAt ps i r.1.length < b) :
    GoodR (stepTo ps r.1.cps.toList r.2.cps.toList i) ∧ ¬ b < mostH (stepTo ps r.1.cps.toList r.2.cps.toList i) ∧ 0 ≤ wt (baseR rs) b (stepTo ps r.1.cps.toList r.2.cps.toList i) ∧ wt (baseR rs) b (stepTo ps r.1.cps.toList r.2.cps.toList i) < wt (baseR rs) b ps := by
  have gd := hgb r hr
  obtain ⟨_, fr, l1, l4, r4⟩ := rd_good gd
  obtain ⟨_, m9, mall⟩ := most_range hg
  obtain ⟨b0, b4⟩ := long_range hgb
  have hen := fit_len hf (str_ne l1)
  rw [Int.toNat_natCast, List.length_map, len_list] at hen
  have lg := leastAt_good (i := i) (n := r.1.length) hg hen (by omega)
  have hll : r.1.cps.toList.length = r.1.length := len_list _
  have hne : r.2.cps.toList ≠ [] → leastAt ps i r.1.length < b := fun h => by
    rcases hs with e | e
    · exact absurd (by rw [e]; rfl) h
    · exact e
  have est : stepTo ps r.1.cps.toList r.2.cps.toList i = ps.take i ++ fresh r.2.cps.toList (1 + leastAt ps i r.1.length) ++ ps.drop (i + r.1.length) := by
    unfold stepTo
    rw [hll]
  rw [est]
  have gf : GoodR (fresh r.2.cps.toList (1 + leastAt ps i r.1.length)) := fresh_good (fo_even fr) fun h => by
    have := hne h
    omega
  have gq := good_cat (good_cat (good_take hg i) gf) (good_drop hg (i + r.1.length))
  have B0 : 0 ≤ baseR rs := by unfold baseR; omega
  refine ⟨gq, ?_, wt_nn B0 _, ?_⟩
  · intro z
    have le : mostH (ps.take i ++ fresh r.2.cps.toList (1 + leastAt ps i r.1.length) ++ ps.drop (i + r.1.length)) ≤ b := fold_least (fun y hy => by
      obtain ⟨p, hp, rfl⟩ := List.mem_map.mp hy
      rcases List.mem_append.mp hp with hp | hp
      · rcases List.mem_append.mp hp with hp | hp
        · have := (mall p (List.mem_of_mem_take hp)).1
          omega
        · obtain ⟨c, hc, rfl⟩ := List.mem_map.mp hp
          have := hne (List.ne_nil_of_mem hc)
          show 1 + leastAt ps i r.1.length ≤ b
          omega
      · have := (mall p (List.mem_of_mem_drop hp)).1
        omega) hb.1
    omega
  · have eps : ps = ps.take i ++ (ps.drop i).take r.1.length ++ ps.drop (i + r.1.length) := by
      rw [List.append_assoc, ← List.drop_drop, List.take_append_drop, List.take_append_drop]
    have e1 := congrArg (wt (baseR rs) b) eps
    rw [wt_cat, wt_cat] at e1
    rw [wt_cat, wt_cat, e1]
    have nep : hts ((ps.drop i).take r.1.length) ≠ [] := fun z => by
      have := congrArg List.length z
      rw [hts_len, List.length_take, List.length_drop, List.length_nil] at this
      omega
    obtain ⟨p, hp, ep⟩ := List.mem_map.mp (leastL_mem nep)
    have lem := wt_mem (b := b) B0 hp
    rw [wt_fresh]
    have ep2 : p.2 = leastAt ps i r.1.length := ep
    rw [ep2] at lem
    have hlr : (r.2.cps.toList.length : Int) ≤ longR rs := by
      rw [len_list]
      exact long_mem hr
    have key : (r.2.cps.toList.length : Int) * baseR rs ^ (b - (1 + leastAt ps i r.1.length)).toNat < baseR rs ^ (b - leastAt ps i r.1.length).toNat := by
      have B1 : 0 < baseR rs := by unfold baseR; omega
      by_cases h : r.2.cps.toList = []
      · rw [h]
        show (0 : Int) * _ < _
        rw [Int.zero_mul]
        exact Int.pow_pos B1
      · have hlt := hne h
        have en : (b - leastAt ps i r.1.length).toNat = (b - (1 + leastAt ps i r.1.length)).toNat + 1 := by omega
        rw [en, Int.pow_succ, Int.mul_comm (baseR rs ^ _) (baseR rs)]
        refine Int.mul_lt_mul_of_pos_right ?_ (Int.pow_pos B1)
        unfold baseR
        omega
    omega
end Rz

namespace Rz
open PySem PySem.Spec PyProof.Rows L2
def spLaw (K : PySem.W.Frag) : Sp := fun vs H Q _ => ∃ (a : Addr) (ns : List Int), vs = [.ref a] ∧ SqL K H a (ns.map V.int) ∧ ns.length ≤ 63 ∧ ∀ H', Q (.bl true) H'
theorem over_trans {x y z : Str} (h : Over y x) (g : Over z y) : Over z x := fun c hc => g c (h c hc)
theorem SdL.nth {H : Hp} : ∀ {ts : List Addr} {rs : List Ru} {i : Nat} {r : Ru}, SdL H ts rs → rs[i]? = some r → ∃ t, ts[i]? = some t ∧ H t = some (.tup (sdV r))
  | _, _, i, r, .nil, h => by cases h
  | _, _, 0, r, .cons e p, h => by
    have z := Option.some.inj h
    subst z
    exact ⟨_, rfl, e⟩
  | _, _, i + 1, r, .cons e p, h => SdL.nth (i := i) p (by simpa using h)
abbrev dKv (q : Str × Int) : PyData := .tuple [.str q.1, .int q.2]
theorem kv_shaped {q : Str × Int} (h : PyData.strOk q.1 = true) : SeqAt.shaped (dKv q) = true := by
  have a : PyData.canLayAll0 [PyData.str q.1, PyData.int q.2] = true := by simp [PyData.canLayAll0, PyData.canLay0, h]
  have d : PyData.depth (dKv q) ≤ 64 := by simp [PyData.depth, PyData.depthAll]
  show (PyData.canLayAll0 [PyData.str q.1, PyData.int q.2] && decide (PyData.depth (dKv q) ≤ 64)) = true
  rw [a, decide_eq_true d]
  rfl
theorem kv_eqv (q : Str × Int) : PyData.eqv (dKv q) (dKv q) = true := by
  show PyData.eqvAll _ _ = true
  simp [PyData.eqvAll, PyData.eqv]
theorem kv_at {K : PySem.W.Frag} {H : Hp} {u : Addr} {q : Str × Int} (h : H u = some (.tup [.str q.1, .int q.2])) : Dp K H (.ref u) (dKv q) := .tup (SqT.of h) (.cons (.str _) (.cons (.int _) .nil))
theorem ow_ok (rs : List Ru) (ps : List Pr) (b : Int) : PyData.strOk (owOf rs ps b).1 = true := by
  unfold owOf
  split
  · split
    · exact (show PyData.strOk ("top" : Str) = true by decide +kernel)
    · exact (show PyData.strOk ("weight" : Str) = true by decide +kernel)
  · exact (show PyData.strOk ("bound" : Str) = true by decide +kernel)
theorem ol_ok (rs : List Ru) (n b : Int) : PyData.strOk (olOf rs n b).1 = true := by
  unfold olOf
  split
  · exact (show PyData.strOk ("weight" : Str) = true by decide +kernel)
  · exact (show PyData.strOk ("bound" : Str) = true by decide +kernel)
theorem rep_wt (B b : Int) (c : Nat) : ∀ n : Nat, wt B b (List.replicate n (c, 0)) = (n : Int) * B ^ b.toNat
  | 0 => by
    show (0 : Int) = ((0 : Nat) : Int) * _
    rw [Int.natCast_zero, Int.zero_mul]
  | n + 1 => by
    have ih := rep_wt B b c n
    rw [List.replicate_succ]
    show B ^ (b - 0).toNat + wt B b (List.replicate n (c, 0)) = ((n + 1 : Nat) : Int) * _
    rw [ih, Int.natCast_add, Int.add_mul, Int.add_comm, show b - 0 = b by omega]
    congr 1
    exact (Int.one_mul _).symm
theorem ow_rep {rs : List Ru} {n : Nat} {b : Int} (hb : 0 ≤ b ∧ b ≤ 9) : owOf rs (List.replicate n (97, 0)) b = olOf rs n b := by
  have m0 : mostH (List.replicate n ((97, 0) : Pr)) ≤ 0 := fold_least (fun y hy => by
    obtain ⟨p, hp, rfl⟩ := List.mem_map.mp hy
    rw [(List.mem_replicate.mp hp).2]
    exact Int.le_refl 0) (Int.le_refl 0)
  unfold owOf olOf
  rw [if_pos hb, if_pos hb, if_neg (by omega), rep_wt]
theorem rep_pairs {H : Hp} {t : Addr} (e : H t = some (.tup [.str "a", .int 0])) : ∀ n : Nat, PAt H (List.replicate n t) (List.replicate n (97, 0))
  | 0 => .nil
  | n + 1 => .cons e (rep_pairs e n)
theorem rep_flat (n : Nat) (v : V) : (List.replicate n [v]).flatten = List.replicate n v := by
  induction n with
  | zero => rfl
  | succ n ih => rw [List.replicate_succ, List.flatten_cons, ih]; rfl
section
variable {w : World} {K : PySem.W.Frag} {mg : Str → Option Value} {base : Heap}
theorem sc_law : FnScope N_law P_law (defScope s_law) := ⟨rfl, rfl, rfl, by decide +kernel, rfl, by decide +kernel, by decide +kernel⟩
theorem ok_law (T : Txt K mg) : FnOk prg w K mg base (L2.CX prg w) 14 T.f_law T.fd_law P_law (spLaw K) := by
  refine Rz.Fun.okN T.F_law sc_law (fun vs H Q E h => ?_) (fun cdv A outer s H vs Q E hr h => ?_)
  · obtain ⟨a, ns, rfl, _⟩ := h
    rfl
  obtain ⟨a, ns, rfl, hS, hlen, k⟩ := h
  have nd := sc_law.nd
  have two : (2 : Nat) ≤ sizeLine := by decide
  refine ⟨_, (pss_cons (ps_set (i := 1) nd rfl (Or.inr rfl) (pe_fn (ok_law_pool T) (hr.mono (by decide)) (by rfl) T.m__law_pool T.F__law_pool.kp T.b__law_pool .nil (fun _ => atN _) (pa_cons (pv 0) pa_nil)))
    (pss_cons (ps_set (i := 2) nd rfl (Or.inl rfl) (pe_fn (ok_law_alphabet T) (hr.mono (by decide)) (by rfl) T.m__law_alphabet T.F__law_alphabet.kp T.b__law_alphabet .nil (fun _ => atN _) (pa_cons (pv 1) (pa_cons pe_int pa_nil))))
    (pss_cons (ps_set (i := 3) nd rfl (Or.inl rfl) (pe_fn (ok_law_book_of T) (hr.mono (by decide)) (by rfl) T.m__law_book_of T.F__law_book_of.kp T.b__law_book_of .nil (fun _ => atN _) (pa_cons (pv 1) (pa_cons (pv 2) pa_nil))))
    (pss_cons (ps_set (i := 4) nd rfl (Or.inl rfl) (pe_fn (ok_law_pick T) (hr.mono (by decide)) (by rfl) T.m__law_pick T.F__law_pick.kp T.b__law_pick .nil (fun _ => atN _) (pa_cons (pv 1) (pa_cons pe_int pa_nil))))
    (C8.pss_cut (ps_if (pt_cmpR op_eq (pe_fn (ok_law_pick T) (hr.mono (by decide)) (by rfl) T.m__law_pick T.F__law_pick.kp T.b__law_pick .nil (fun _ => atN _) (pa_cons (pv 1) (pa_cons pe_int pa_nil))) pe_int (nomark _)) (pss_one (ps_set (i := 4) nd rfl (Or.inl rfl) (pe_ix ix_list (pe_lst (pa_cons (pe_un un_neg pe_int) (pa_cons pe_int (pa_cons (pe_un un_neg pe_int) (pa_cons pe_int (pa_cons (pe_op op_add pe_int (pe_fn (ok_law_pick T) (hr.mono (by decide)) (by rfl) T.m__law_pick T.F__law_pick.kp T.b__law_pick .nil (fun _ => atN _) (pa_cons (pv 1) (pa_cons pe_int pa_nil)))) pa_nil)))))) (pe_fn (ok_law_pick T) (hr.mono (by decide)) (by rfl) T.m__law_pick T.F__law_pick.kp T.b__law_pick .nil (fun _ => atN _) (pa_cons (pv 1) (pa_cons pe_int pa_nil))) (fun _ _ => rfl)))) pss_nil)
    (pss_cons (ps_set (i := 5) nd rfl (Or.inr rfl) (pe_op op_add pe_int (pe_fn (ok_law_pick T) (hr.mono (by decide)) (by rfl) T.m__law_pick T.F__law_pick.kp T.b__law_pick .nil (fun _ => atN _) (pa_cons (pv 1) (pa_cons pe_int pa_nil)))))
    (pss_cons (ps_setLc (i := 7) (own := [("_law_sign", 6)]) (g := (gName 6)) (tt := tYes) rfl nd rfl rfl (sw_true rfl rfl rfl (by decide +kernel)) (pi_str (pe_fn (ok_law_word_of T) (hr.mono (by decide)) (by rfl) T.m__law_word_of T.F__law_word_of.kp T.b__law_word_of .nil (fun _ => atN _) (pa_cons (pv 1) (pa_cons (pv 2) (pa_cons pe_int (pa_cons pe_int pa_nil)))))) (blkOk_by (N := N_law) (sc := defScope s_law) (by decide +kernel)) (fun _ _ _ _ _ => (pg_name (i := 6) nd rfl (Or.inl rfl))) (fun _ _ _ _ _ => pts_nil) (fun _ _ _ _ _ => (pe_tup (pa_cons (pv 6) (pa_cons (pe_fn (ok_law_pick T) (hr.mono (by decide)) (by rfl) T.m__law_pick T.F__law_pick.kp T.b__law_pick .nil (fun _ => atN _) (pa_cons (pv 1) (pa_cons (pv 5) pa_nil))) pa_nil)))))
    (pss_cons (ps_set (i := 8) nd rfl (Or.inl rfl) (pe_fn (ok_law_pick T) (hr.mono (by decide)) (by rfl) T.m__law_pick T.F__law_pick.kp T.b__law_pick .nil (fun _ => atN _) (pa_cons (pv 1) (pa_cons pe_int pa_nil))))
    (pss_cons (ps_set (i := 9) nd rfl (Or.inl rfl) (pe_cm (pe_glob (v := .ref T.c_Book) (by rfl) T.m_Book rfl) T.cr_Book_read T.M_Book_read (fnr_of (ok_Book_read T) T.b_Book_read) (hr.mono (by decide)) (fun _ => atN _) (pa_cons (pe_fn (ok_law_lines_of T) (hr.mono (by decide)) (by rfl) T.m__law_lines_of T.F__law_lines_of.kp T.b__law_lines_of .nil (fun _ => atN _) (pa_cons (pv 3) pa_nil)) pa_nil)))
    (pss_cons (ps_set (i := 10) nd rfl (Or.inl rfl) (pe_fn (ok_law_as_row T) (hr.mono (by decide)) (by rfl) T.m__law_as_row T.F__law_as_row.kp T.b__law_as_row .nil (fun _ => atN _) (pa_cons (pv 7) pa_nil)))
    (pss_cons (ps_set (i := 11) nd rfl (Or.inl rfl) (pe_fn (ok_law_weighed T) (hr.mono (by decide)) (by rfl) T.m__law_weighed T.F__law_weighed.kp T.b__law_weighed .nil (fun _ => atN _) (pa_cons (pv 9) (pa_cons (pv 10) (pa_cons (pv 4) pa_nil)))))
    (pss_cons (ps_if (PW.pt (pw_or (pt_cmpR (op_neD hr.units) (pv 11) (pe_fn (ok_law_due_of T) (hr.mono (by decide)) (by rfl) T.m__law_due_of T.F__law_due_of.kp T.b__law_due_of .nil (fun _ => atN _) (pa_cons (pv 3) (pa_cons (pv 7) (pa_cons (pv 4) pa_nil)))) (nomark _)) (pw_or1 (pt_not (pt_val (pe_fn (ok_law_is_int T) (hr.mono (by decide)) (by rfl) T.m__law_is_int T.F__law_is_int.kp T.b__law_is_int .nil (fun _ => atN _) (pa_cons (pe_ix ix_tup (pv 11) pe_int (fun _ _ => rfl)) pa_nil))))))) (pss_one (ps_ret pe_bl)) pss_nil)
    (C8.pss_cut (ps_set (i := 12) nd rfl (Or.inl rfl) (pe_ifExp (PW.pt (pw_or (pt_cmpR op_lt (pv 4) pe_int (nomark _)) (pw_or1 (pt_cmpR op_gt (pv 4) pe_int (nomark _))))) (pe_tup (pa_cons pe_str (pa_cons (pv 4) pa_nil))) (pe_fn (ok_law_due_of T) (hr.mono (by decide)) (by rfl) T.m__law_due_of T.F__law_due_of.kp T.b__law_due_of .nil (fun _ => atN _) (pa_cons (pv 3) (pa_cons (pe_op op_rep (pe_lst (pa_cons (pe_tup (pa_cons pe_str (pa_cons pe_int pa_nil))) pa_nil)) (pv 8)) (pa_cons (pv 4) pa_nil))))))
    (pss_cons (ps_set (i := 13) nd rfl (Or.inl rfl) (pe_fn (ok_law_limited T) (hr.mono (by decide)) (by rfl) T.m__law_limited T.F__law_limited.kp T.b__law_limited .nil (fun _ => atN _) (pa_cons (pv 9) (pa_cons (pv 8) (pa_cons (pv 4) pa_nil)))))
    (pss_cons (ps_if (PW.pt (pw_or (pt_cmpR (op_neD hr.units) (pv 13) (pv 12) (nomark _)) (pw_or1 (pt_not (pt_val (pe_fn (ok_law_is_int T) (hr.mono (by decide)) (by rfl) T.m__law_is_int T.F__law_is_int.kp T.b__law_is_int .nil (fun _ => atN _) (pa_cons (pe_ix ix_tup (pv 13) pe_int (fun _ _ => rfl)) pa_nil))))))) (pss_one (ps_ret pe_bl)) pss_nil)
    (C8.pss_cut (ps_if (pt_cmpR op_eq (pe_ix ix_tup (pv 11) pe_int (fun _ _ => rfl)) pe_str (nomark _)) (pss_one (ps_for PassesOwn.never rfl (pi_list (pe_listG (nm := "list") (pgen_meth (pv 9) T.cl_Book T.M_Book_steps (ok_Book_steps T) (hr.mono (by decide)) T.b_Book_steps .nil (pa_cons (pv 10) pa_nil)) passN (fun _ _ _ h => h.elim) (hr.mono (by decide)) (by rfl) T.n_list (by decide +kernel))) (pg_tup rfl (pgs_cons (pg_name (i := 14) nd rfl (Or.inl rfl)) (pgs_cons (pg_name (i := 15) nd rfl (Or.inl rfl)) pgs_nil)))
        (pss_cons (ps_set (i := 16) nd rfl (Or.inl rfl) (pe_fn (ok_law_take T) (hr.mono (by decide)) (by rfl) T.m__law_take T.F__law_take.kp T.b__law_take .nil (fun _ => atN _) (pa_cons (pv 7) (pa_cons (pe_ix ix_list (pv 3) (pv 14) (fun _ _ => rfl)) (pa_cons (pv 15) pa_nil)))))
        (pss_cons (ps_set (i := 18) nd rfl (Or.inl rfl) (pe_callB (cr_min (by rfl)) (by rfl) T.n_min (by decide +kernel) (pa_cons (pe_lc (own := [("_law_pair", 17)]) (g := (gName 17)) (tt := tYes) rfl nd (pi_list (pe_slice sl_list (pv 7) (po_some (pv 15)) (po_some (pe_op op_add (pv 15) (pe_callB call_len_str (by rfl) T.n_len PySem.boot_len (pa_cons (pe_ix ix_tup (pe_ix ix_list (pv 3) (pv 14) (fun _ _ => rfl)) pe_int (fun _ _ => rfl)) pa_nil)))))) (blkOk_by (N := N_law) (sc := defScope s_law) (by decide +kernel)) (fun _ _ _ _ _ => (pg_name (i := 17) nd rfl (Or.inl rfl))) (fun _ _ _ _ _ => pts_nil) (fun _ _ _ _ _ => (pe_ix (show IxR _ (rIxT K) from ix_tup) (pv 17) pe_int (fun _ _ => rfl)))) pa_nil)))
        (pss_one (ps_if (PW.pt (pw_or (pt_cmpR op_eq (pe_ix ix_tup (pe_ix ix_list (pv 3) (pv 14) (fun _ _ => rfl)) pe_int (fun _ _ => rfl)) pe_str (nomark _)) (pw_or1 (pt_cmpR op_lt (pv 18) (pv 4) (nomark _))))) (pss_cons (ps_set (i := 19) nd rfl (Or.inl rfl) (pe_fn (ok_law_weighed T) (hr.mono (by decide)) (by rfl) T.m__law_weighed T.F__law_weighed.kp T.b__law_weighed .nil (fun _ => atN _) (pa_cons (pv 9) (pa_cons (pe_fn (ok_law_as_row T) (hr.mono (by decide)) (by rfl) T.m__law_as_row T.F__law_as_row.kp T.b__law_as_row .nil (fun _ => atN _) (pa_cons (pv 16) pa_nil)) (pa_cons (pv 4) pa_nil)))))
          (pss_one (ps_if (PW.pt (pw_or (pt_cmpR op_ne (pe_ix ix_tup (pv 19) pe_int (fun _ _ => rfl)) pe_str (nomark _)) (pw_or1 (pt_not (pt_chain op_le op_lt pe_int (pe_ix ix_tup (pv 19) pe_int (fun _ _ => rfl)) (pe_ix ix_tup (pv 11) pe_int (fun _ _ => rfl))))))) (pss_one (ps_ret pe_bl)) pss_nil))) pss_nil)))))) pss_nil)
    (pss_one (ps_ret pe_bl)))))))))))))))))), ?_⟩
  refine ⟨_, rfl, a, ns, rfl, hS, hlen, fun H1 d S1 hd D1 => ?_⟩
  refine ⟨_, rfl, d, 3, rfl, by decide, by decide, D1, fun H2 z hz oz D2 B2 => ?_⟩
  have hz3 : z.length = 3 := by omega
  refine ⟨_, rfl, _, rfl, d, z, rfl, hz3, oz, D2, fun H3 l rs D3 B3 hl A3 g3 l6 => ?_⟩
  have ndl : d ≠ l := apartNew D2.some hl
  clear hS S1 hd D1 D2 B2 B3 hl
  refine ⟨_, rfl, d, 10, rfl, by decide, D3, fun H4 b1 c0 c1 D4 B4 => ?_⟩
  have A4 := A3.but B4 (nin1 (Ne.symm ndl)) (drT D3 B4)
  refine ⟨fun σ H' => ∃ bd : Int, σ = [some (.ref a), some (.ref d), some (.str z), some (.ref l), some (.int bd), none, none, none, none, none, none, none, none, none, none, none, none, none, none, none] ∧ bd.natAbs ≤ 200 ∧ Dr H' d ∧ SAt H' l rs, ?_, ?_⟩
  · refine ⟨_, rfl, d, 4, rfl, by decide, D4, fun H5 y y0 y1 D5 B5 => ⟨rfl, _, rfl, ?_⟩⟩
    have A5 := A4.but B5 (nin1 (Ne.symm ndl)) (drT D4 B5)
    refine ite2 (fun _ => ?_) (fun _ => ⟨b1, rfl, by omega, D5, A5⟩)
    refine ⟨_, rfl, _, rfl, _, rfl, d, 90, rfl, by decide, D5, fun H6 r r0 r1 D6 B6 => ⟨_, _, rfl, rfl, by show 5 ≤ sizeLine; decide, fun q hq => ?_⟩⟩
    have A6 := A5.but B6 (nin1 (Ne.symm ndl)) (drT D5 B6)
    have Sq := Rz.Same.new (o := .lst [.int (-1), .int 10, .int (-5), .int 11, .int (9 + r)]) (Same.refl H6) hq
    have eq6 : upd H6 q (.lst [.int (-1), .int 10, .int (-5), .int 11, .int (9 + r)]) q = some (.lst (([-1, 10, -5, 11, 9 + r] : List Int).map V.int)) := upd_same
    have ndq : d ≠ q := apartNew D6.some hq
    have D7 := D6.same Sq
    have A7 := A6.same Sq
    generalize upd H6 q (.lst [.int (-1), .int 10, .int (-5), .int 11, .int (9 + r)]) = H7 at D7 A7 eq6
    refine ⟨_, rfl, d, 5, rfl, by decide, D7, fun H8 s0 s1 s2 D8 B8 => ?_⟩
    have A8 := A7.but B8 (nin1 (Ne.symm ndl)) (drT D7 B8)
    have eq8 := B8.at eq6 (nin1 (Ne.symm ndq))
    obtain ⟨v, hv, hat⟩ := atI_in (xs := ([-1, 10, -5, 11, 9 + r] : List Int).map V.int) s1 (by simpa using s2)
    obtain ⟨vi, hvi, rfl⟩ := List.mem_map.mp hv
    refine ⟨q, _, s0, _, rfl, rfl, SqL.of eq8, hat, vi, rfl, ?_, D8, A8⟩
    simp only [List.mem_cons, List.not_mem_nil, or_false] at hvi
    omega
  rintro σ H5 ⟨bd, rfl, zb, D5, A5⟩
  clear D3 A3 D4 A4 B4
  refine ⟨_, rfl, d, 10, rfl, by decide, D5, fun H6 f f0 f1 D6 B6 => ⟨_, _, rfl, rfl, ?_⟩⟩
  have A6 := A5.but B6 (nin1 (Ne.symm ndl)) (drT D5 B6)
  refine ⟨_, rfl, _, rfl, d, z, 0, 10, rfl, by decide, by decide, by decide, by omega, by omega, D6, fun H7 tt t0 t10 ot D7 B7 => ⟨tt, rfl, fun D hDn => ?_⟩⟩
  have A7 := A6.but B7 (nin1 (Ne.symm ndl)) (drT D6 B7)
  have hot := over_trans ot oz
  have lt : tt.length ≤ 10 := by omega
  clear D5 A5 D6 A6 B6 B7 ot
  refine lc_it walk_str (fun j H' => ∃ (ts : List Addr) (ps : List Pr), H' D = some (.lst (ts.map V.ref)) ∧ PAt H' ts ps ∧ ps.length = j ∧ GoodR ps ∧ Dr H' d ∧ SAt H' l rs) ?_ (fun _ _ _ _ => True.intro) ?_ ?_
  · exact ⟨[], [], upd_same, .nil, rfl, (fun p hp => by cases hp), D7.same (Rz.Same.new (Same.refl _) hDn), A7.same (Rz.Same.new (Same.refl _) hDn)⟩
  · rintro j x H' H2 hj ⟨ts, ps, eD, hP, hl, hg, D', A'⟩ ⟨rfl, c, hc, rfl⟩
    have hc' : tt.cps.toList[j]? = some c := by
      rw [← hc]
      exact Array.getElem?_toList ..
    have hcm := hot c (List.mem_of_getElem? hc')
    have nDd : D ≠ d := Ne.symm (apartNew D7.some hDn)
    have hj2 : j < tt.length := hj
    refine ⟨rfl, yesT ⟨_, rfl, _, rfl, _, rfl, d, 1 + f, rfl, by omega, D', fun H3 y y0 y1 D3 B3 => ⟨two, fun t ht => ?_⟩⟩⟩
    have T3 := drT D' B3
    have eD3 := B3.at eD (nin1 nDd)
    have A3 := A'.but B3 (nin1 (Ne.symm ndl)) T3
    have St := Rz.Same.new (o := .tup [.str ⟨#[c]⟩, .int y]) (Same.refl H3) ht
    have ntD : t ≠ D := fun z => by rw [z, eD3] at ht; cases ht
    have lts := hP.length
    refine ⟨_, St _ _ eD3, by rw [List.length_map, sizeLine_eq]; omega, ts ++ [t], ps ++ [(c, y)], by rw [upd_same, List.map_append]; rfl, ?_, by rw [List.length_append, hl]; rfl, ?_, (D3.same St).upd (Ne.symm nDd), ?_⟩
    · have T4 : Tups H2 (upd (upd H3 t (.tup [.str ⟨#[c]⟩, .int y])) D (.lst (ts.map V.ref ++ [.ref t]))) := Tups.upd (T3.trans (Tups.of St)) (not_tupL ⟨_, St _ _ eD3⟩)
      refine PAt.append (hP.keep T4) (.cons ?_ .nil)
      rw [upd_ne ntD, upd_same]
      rfl
    · exact good_cat hg fun p hp => by
        have e : p = (c, y) := by simpa using hp
        subst e
        exact ⟨evC hcm, by show 0 ≤ y; omega, by show y ≤ 9; omega⟩
    · have nlD : l ≠ D := apartNew A7.some hDn
      exact (A3.same St).upd nlD (not_tupL ⟨_, St _ _ eD3⟩)
  rintro H8 ⟨ts, ps, eD, hP, hl, hg, D8, A8⟩
  have hl2 : ps.length = tt.length := hl
  have L8 : LAt H8 D ps := ⟨ts, eD, hP⟩
  have nDd : D ≠ d := Ne.symm (apartNew D7.some hDn)
  have zps : ps.length ≤ 10 := by omega
  clear hP eD hl ts D7 A7
  refine ⟨_, rfl, d, 1000, rfl, by decide, D8, fun H9 many n0 n1 D9 B9 => ?_⟩
  have A9 := A8.but B9 (nin1 (Ne.symm ndl)) (drT D8 B9)
  have L9 := L8.but B9 (nin1 nDd) (drT D8 B9)
  clear D8 A8 L8 B9
  refine ⟨rfl, _, rfl, l, rs, rfl, A9, g3, l6, fun H10 S10 => ⟨rs, rfl, g3, l6, fun H11 b t S11 fb ft Bk11 => ?_⟩⟩
  have S9b := S10.trans S11
  refine ⟨_, rfl, D, ps, rfl, L9.same S9b, hg, by omega, fun H12 p m S12 fp fm R12 => ?_⟩
  have S9c := S9b.trans S12
  have A12 := A9.same S9c
  have L12 := L9.same S9c
  have Bk12 := Bk11.same S12
  clear S10 S11 S9b S12 S9c A9 L9 Bk11 fb ft fp fm D9
  refine ⟨_, rfl, _, rfl, _, rfl, b, t, p, m, rs, ps, bd, rfl, Bk12, g3, l6, R12, hg, by omega, by omega, fun H13 u S13 e13 => ?_⟩
  refine ⟨_, rfl, _, rfl, _, rfl, _, rfl, l, D, rs, ps, bd, rfl, A12.same S13, g3, l6, L12.same S13, hg, by omega, fun H14 u2 S14 e14 => ?_⟩
  have e14u := S14 _ _ e13
  refine ⟨dKv (owOf rs ps bd), dKv (owOf rs ps bd), kv_at e14u, kv_at e14, kv_shaped (ow_ok _ _ _), kv_shaped (ow_ok _ _ _), _, rfl, ?_⟩
  rw [kv_eqv]
  refine iteF ⟨_, rfl, u, _, _, _, rfl, rfl, SqT.of e14u, rfl, _, rfl, true, rfl, iteF ?_⟩
  have S1214 := S13.trans S14
  have A14 := A12.same S1214
  have L14 := L12.same S1214
  have Bk14 := Bk12.same S1214
  have R14 := R12.same S1214
  clear S13 S14 S1214 A12 L12 Bk12 R12 e13 e14
  obtain ⟨mn, rfl⟩ := Int.eq_ofNat_of_zero_le n0
  refine ⟨fun σ H' => ∃ u12 : Addr, σ = [some (.ref a), some (.ref d), some (.str z), some (.ref l), some (.int bd), some (.int (1 + f)), none, some (.ref D), some (.int (mn : Nat)), some (.ref b), some (.ref p), some (.ref u), some (.ref u12), none, none, none, none, none, none, none] ∧ Same H14 H' ∧ H' u12 = some (.tup [.str (olOf rs (mn : Nat) bd).1, .int (olOf rs (mn : Nat) bd).2]), ?_, ?_⟩
  · have bad : ¬ (0 ≤ bd ∧ bd ≤ 9) → ∀ t, H14 t = none → (upd H14 t (.tup [.str "bound", .int bd])) t = some (.tup [.str (olOf rs (mn : Nat) bd).1, .int (olOf rs (mn : Nat) bd).2]) := fun hb t ht => by
      unfold olOf
      rw [if_neg hb]
      exact upd_same
    refine ⟨_, rfl, _, _, rfl, rfl, _, rfl, ite2 (fun h1 => ?_) (fun h1 => ⟨_, rfl, _, _, rfl, rfl, _, rfl, ite2 (fun h2 => ?_) (fun h2 => ?_)⟩)⟩
    · have q := of_decide_eq_true h1
      exact iteT ⟨_, rfl, two, fun t ht => ⟨t, rfl, Rz.Same.new (Same.refl _) ht, bad (by omega) t ht⟩⟩
    · have q := of_decide_eq_true h2
      exact ⟨_, rfl, two, fun t ht => ⟨t, rfl, Rz.Same.new (Same.refl _) ht, bad (by omega) t ht⟩⟩
    have hb : 0 ≤ bd ∧ bd ≤ 9 := by
      have q1 : ¬ bd < 0 := fun z => h1 (decide_eq_true z)
      have q2 : ¬ bd > 9 := fun z => h2 (decide_eq_true z)
      omega
    refine ⟨_, rfl, two, fun ta hta => ?_⟩
    have Sa := Rz.Same.new (o := .tup [.str "a", .int 0]) (Same.refl H14) hta
    have ea : upd H14 ta (.tup [.str "a", .int 0]) ta = some (.tup [.str "a", .int 0]) := upd_same
    generalize upd H14 ta (.tup [.str "a", .int 0]) = H15 at Sa ea
    refine ⟨by show 1 ≤ sizeLine; decide, fun la hla => ?_⟩
    have Sl := Rz.Same.new (o := .lst [.ref ta]) Sa hla
    have el : upd H15 la (.lst [.ref ta]) la = some (.lst [.ref ta]) := upd_same
    have ea2 := Rz.Same.new (o := .lst [.ref ta]) (Same.refl H15) hla _ _ ea
    generalize upd H15 la (.lst [.ref ta]) = H16 at Sl el ea2
    refine ⟨_, rfl, la, _, _, rfl, rfl, el, by omega, by omega, ?_, fun lb hlb => ?_⟩
    · show 1 * (mn : Int).toNat ≤ sizeLine
      rw [Int.toNat_natCast, sizeLine_eq]
      omega
    have Sb := Rz.Same.new (o := .lst (List.replicate (mn : Int).toNat [V.ref ta]).flatten) (Same.refl H16) hlb
    have eb : upd H16 lb (.lst (List.replicate (mn : Int).toNat [V.ref ta]).flatten) lb = some (.lst ((List.replicate mn ta).map V.ref)) := by
      rw [upd_same, Int.toNat_natCast, rep_flat, List.map_replicate]
    generalize upd H16 lb (.lst (List.replicate (mn : Int).toNat [V.ref ta]).flatten) = H17 at Sb eb
    have Lb : LAt H17 lb (List.replicate mn (97, 0)) := ⟨_, eb, rep_pairs (Sb _ _ ea2) mn⟩
    have S17 := Sl.trans Sb
    refine ⟨_, rfl, l, lb, rs, List.replicate mn (97, 0), bd, rfl, A14.same S17, g3, l6, Lb, fun p hp => ?_, by rw [List.length_replicate]; omega, fun H18 u12 S18 e18 => ?_⟩
    · rw [(List.mem_replicate.mp hp).2]
      exact ⟨by decide +kernel, Int.le_refl 0, by decide⟩
    · rw [ow_rep hb] at e18
      exact ⟨u12, rfl, S17.trans S18, e18⟩
  rintro σ H15 ⟨u12, rfl, S15, e15⟩
  refine ⟨_, rfl, _, rfl, _, rfl, b, t, rs, (mn : Nat), bd, rfl, Bk14.same S15, g3, l6, by omega, by omega, by omega, fun H16 u13 S16 e16 => ?_⟩
  have e16b := S16 _ _ e15
  refine ⟨_, rfl, _, rfl, dKv (olOf rs (mn : Nat) bd), dKv (olOf rs (mn : Nat) bd), kv_at e16, kv_at e16b, kv_shaped (ol_ok _ _ _), kv_shaped (ol_ok _ _ _), _, rfl, ?_⟩
  rw [kv_eqv]
  refine iteF ⟨_, rfl, u13, _, _, _, rfl, rfl, SqT.of e16, rfl, _, rfl, true, rfl, iteF ?_⟩
  have S1416 := S15.trans S16
  have A16 := A14.same S1416
  have L16 := L14.same S1416
  have Bk16 := Bk14.same S1416
  have R16 := R14.same S1416
  have eu16 := S1416 _ _ e14u
  clear S15 S16 S1416 A14 L14 Bk14 R14 e14u e15 e16 e16b
  refine ⟨fun σ H' => True, ?_, fun σ H' _ => k _⟩
  refine ⟨_, rfl, u, _, _, _, rfl, rfl, SqT.of eu16, rfl, rfl, _, rfl, ?_⟩
  by_cases hw : 0 ≤ bd ∧ bd ≤ 9 ∧ ¬ bd < mostH ps
  case' neg =>
    have ne : ¬ V.str (owOf rs ps bd).1 = V.str "weight" := by
      intro e
      have e2 : (owOf rs ps bd).1 = "weight" := by injection e
      unfold owOf at e2
      by_cases h1 : 0 ≤ bd ∧ bd ≤ 9
      · rw [if_pos h1] at e2
        by_cases h2 : bd < mostH ps
        · rw [if_pos h2] at e2
          exact absurd e2 (show ¬ ("top" : Str) = "weight" by decide +kernel)
        · exact hw ⟨h1.1, h1.2, h2⟩
      · rw [if_neg h1] at e2
        exact absurd e2 (show ¬ ("bound" : Str) = "weight" by decide +kernel)
    rw [decide_eq_false ne]
    exact iteF True.intro
  have how : owOf rs ps bd = (("weight" : Str), wt (baseR rs) bd ps) := by
    unfold owOf
    rw [if_pos ⟨hw.1, hw.2.1⟩, if_neg hw.2.2]
  rw [how] at eu16 ⊢
  rw [decide_eq_true rfl]
  refine iteT ?_
  obtain ⟨db, tb, hb, ht, hP⟩ := id Bk16
  refine ⟨_, rfl, b, db, _, rfl, hb, rfl, _, rfl, b, t, p, m, rs, ps, rfl, Bk16, g3, l6, R16, by omega, fun H17 ts S17 N17 q hq => ?_⟩
  have S18 := Rz.Same.new (o := .lst (ts.map V.ref)) S17 hq
  have Nq : NpL (upd H17 q (.lst (ts.map V.ref))) ts (stepsTo (ps.map (·.1)) rs ps.length) := N17.keep (Tups.of (Rz.Same.new (Same.refl H17) hq))
  have eq : upd H17 q (.lst (ts.map V.ref)) q = some (.lst (ts.map V.ref)) := upd_same
  generalize upd H17 q (.lst (ts.map V.ref)) = H18 at S18 Nq eq
  have A18 := A16.same S18
  have L18 := L16.same S18
  have Bk18 := Bk16.same S18
  have R18 := R16.same S18
  have eu18 := S18 _ _ eu16
  clear S17 S18 A16 L16 Bk16 R16 eu16 N17 hq hb ht hP
  refine ⟨q, rfl, ⟨_, SqL.of eq⟩, for_list (xs := ts.map V.ref) (fun i σ H' => ∃ v14 v15 v16 v18 v19 : Option V, σ = [some (.ref a), some (.ref d), some (.str z), some (.ref l), some (.int bd), some (.int (1 + f)), none, some (.ref D), some (.int (mn : Nat)), some (.ref b), some (.ref p), some (.ref u), some (.ref u12), some (.ref u13), v14, v15, v16, none, v18, v19] ∧ Same H18 H') ⟨none, none, none, none, none, rfl, Same.refl _⟩ (fun i σ H' _ h => ?_) ?_ (fun σ H' _ => True.intro)⟩
  · obtain ⟨_, _, _, _, _, _, S⟩ := h
    exact SqL.of (S _ _ eq)
  rintro i x σ H19 hx ⟨v14, v15, v16, v18, v19, rfl, S19⟩
  obtain ⟨st, hst, rfl⟩ := refs_get hx
  obtain ⟨⟨nn, ii⟩, hn1, est⟩ := Nq.get hst
  obtain ⟨hii, hnn, r, hr1, hf⟩ := stepsTo_mem (List.mem_of_getElem? hn1)
  have hii : ii < ps.length := hii
  have hnn : nn < rs.length := hnn
  have hr1 : rs[nn]? = some r := hr1
  have hf : fitAt (ps.map (·.1)) r.1.cps.toList ((ii : Nat) : Int) = true := hf
  have est : H18 st = some (.tup [.int (nn : Nat), .int (ii : Nat)]) := est
  have e19 := S19 _ _ est
  have A19 := A18.same S19
  have L19 := L18.same S19
  have hrm : r ∈ rs := List.mem_of_getElem? hr1
  have gd := g3 r hrm
  obtain ⟨lf, rt⟩ := r
  have hfalls := fun hs => falls hg g3 hrm hf ⟨hw.1, hw.2.1⟩ hw.2.2 hs
  obtain ⟨_, _, l1, l4, r4⟩ := rd_good gd
  have l1 : 1 ≤ lf.length := l1
  have l4 : lf.length ≤ 4 := l4
  have r4 : rt.length ≤ 4 := r4
  have lne := str_ne l1
  have hll : lf.length ≤ sizeLine := by rw [sizeLine_eq]; omega
  obtain ⟨ti, ei, Pi⟩ := id A19
  obtain ⟨sd, hti, hsd⟩ := Pi.nth hr1
  have hat : atI (ti.map V.ref) ((nn : Nat) : Int) = some (.ref sd) := atI_nat (ref_nth hti)
  refine ⟨st, _, rfl, SqT.of e19, rfl, _, _, rfl, _, _, rfl, rfl, ?_⟩
  refine ⟨_, rfl, _, rfl, _, rfl, l, _, _, _, rfl, rfl, SqL.of ei, hat, _, rfl, D, sd, ps, lf, rt, (ii : Nat), rfl, L19, hsd, l1, by omega, by omega, by omega, fun hf' => absurd (hf.symm.trans hf') (by decide), fun _ H20 c S20 fc Lc => ?_⟩
  have hen := fit_len hf lne
  rw [Int.toNat_natCast, List.length_map, len_list] at hen
  rw [Int.toNat_natCast] at Lc
  refine ⟨_, rfl, _, rfl, _, rfl, _, rfl, _, rfl, _, rfl, l, _, _, _, rfl, rfl, SqL.of (S20 _ _ ei), hat, sd, _, _, _, rfl, rfl, SqT.of (S20 _ _ hsd), rfl, lf, rfl, hll, _, _, rfl, rfl, _, rfl, ?_⟩
  refine any_go (i := ii) (n := lf.length) (L19.same S20) fun D2 H21 fD S21 LD => ?_
  have zD : ((ps.drop ii).take lf.length).length ≤ sizeLine := by rw [List.length_take, List.length_drop, sizeLine_eq]; omega
  obtain ⟨td, hd, _⟩ := id LD
  refine ⟨D2, rfl, ⟨_, SqL.of hd⟩, fun D3 hD3 => lc_pairs (K := K) (l := D2) (ps := (ps.drop ii).take lf.length) (fun q => .int q.2) LD zD hD3 ?_ ?_⟩
  · intro t q H3 Q2 _ S e cc
    exact ⟨rfl, _, rfl, t, _, _, _, rfl, rfl, SqT.of e, rfl, cc _ (Same.refl _)⟩
  intro H22 S22 e22
  have e22' : H22 D3 = some (.lst ((hts ((ps.drop ii).take lf.length)).map V.int)) := by
    rw [e22]
    unfold hts
    rw [List.map_map]
    rfl
  refine ⟨D3, _, rfl, SqL.of e22', by rw [hts_len, List.length_take, List.length_drop]; omega, fun mm hm hall => ?_⟩
  have emm : mm = leastAt ps ii lf.length := leastL_eq hm hall
  subst emm
  have S2022 := S21.trans S22
  have S1922 := S20.trans S2022
  have Lc22 := Lc.same S2022
  have zl : (stepTo ps lf.cps.toList rt.cps.toList ii).length ≤ 100 := by
    unfold stepTo
    rw [List.length_append, List.length_append, fresh_len, List.length_take, List.length_drop, len_list]
    omega
  generalize hqs : stepTo ps lf.cps.toList rt.cps.toList ii = qs at Lc22 zl hfalls
  clear hm hall e22 e22' LD hd
  have e1822 := S19.trans S1922
  have skip : Same H18 H22 := e1822
  refine (fun (go : (rt = "" ∨ leastAt ps ii lf.length < bd) → _) => ⟨_, rfl, _, rfl, l, _, _, _, rfl, rfl, SqL.of (S1922 _ _ ei), hat, sd, _, _, _, rfl, rfl, SqT.of (S1922 _ _ hsd), rfl, rfl, _, rfl, ite2 (fun h1 => iteT (go (.inl (by have e := of_decide_eq_true h1; injection e)))) (fun h1 => ⟨_, rfl, _, rfl, _, _, rfl, rfl, _, rfl, ite2 (fun h2 => go (.inr (of_decide_eq_true h2))) (fun h2 => ⟨_, _, _, _, _, rfl, skip⟩)⟩)⟩) ?_
  intro hs
  obtain ⟨gq, tq, w0, wlt⟩ := hfalls hs
  refine ⟨_, rfl, _, rfl, c, qs, rfl, Lc22, gq, by omega, fun H23 p2 m2 S23 fp fm R23 => ⟨_, rfl, b, t, p2, m2, rs, qs, bd, rfl, Bk18.same (e1822.trans S23), g3, l6, R23, gq, by omega, by omega, fun H24 u3 S24 e24 => ?_⟩⟩
  have how2 : owOf rs qs bd = (("weight" : Str), wt (baseR rs) bd qs) := by
    unfold owOf
    rw [if_pos ⟨hw.1, hw.2.1⟩, if_neg tq]
  rw [how2] at e24
  have S1824 := e1822.trans (S23.trans S24)
  have eu24 := S1824 _ _ eu18
  refine ⟨_, rfl, u3, _, _, _, rfl, rfl, SqT.of e24, rfl, rfl, _, rfl, ?_⟩
  rw [decide_eq_true rfl]
  refine iteF ⟨_, rfl, u3, _, _, _, rfl, rfl, SqT.of e24, rfl, _, _, rfl, rfl, _, rfl, ?_⟩
  rw [decide_eq_true w0]
  refine iteT ⟨_, rfl, u, _, _, _, rfl, rfl, SqT.of eu24, rfl, _, _, rfl, rfl, _, rfl, ?_⟩
  rw [decide_eq_true wlt]
  exact iteF ⟨_, _, _, _, _, rfl, S1824⟩
end
end Rz

namespace Rz
open PySem L2
theorem all_mk {w : World} {K : PySem.W.Frag} {h : Heap} {mg : Str → Option Value} {fa : Addr} (X : K.In h) (G : h.Ns mainGlobals mg) (hfa : mg "law" = some (.ref fa))
    {tk_SIGNS : Tok}
    {tk_GREATEST_HEIGHT : Tok}
    {tk_MOST_SIGNS : Tok}
    {tk_MOST_RULES : Tok}
    {c_BadSign : Addr}
    {nm_BadSign q_BadSign : Str} {N_BadSign : Addr} {bs_BadSign bm_BadSign : List Value} {sn_BadSign : List Str} {sub_BadSign : List Value} {ab_BadSign : Bool} {col_BadSign : Option Bool} {dd_BadSign : Option Addr} {k0_BadSign k1_BadSign k2_BadSign k3_BadSign k5_BadSign : Option Value}
    {f_BadSign_init cc_BadSign_init cda_BadSign_init : Addr} {oc_BadSign_init kV_BadSign_init dc_BadSign_init pm_BadSign_init ct_BadSign_init ccl_BadSign_init cl_BadSign_init : Value} {od_BadSign_init an_BadSign_init cdd_BadSign_init cld_BadSign_init : Option Addr} {sl_BadSign_init cs_BadSign_init ls_BadSign_init : Array (Option Value)} {vs_BadSign_init : Array Value} {fl_BadSign_init : Str} {tf_BadSign_init : Tok}
    {c_BadHeight : Addr}
    {nm_BadHeight q_BadHeight : Str} {N_BadHeight : Addr} {bs_BadHeight bm_BadHeight : List Value} {sn_BadHeight : List Str} {sub_BadHeight : List Value} {ab_BadHeight : Bool} {col_BadHeight : Option Bool} {dd_BadHeight : Option Addr} {k0_BadHeight k1_BadHeight k2_BadHeight k3_BadHeight k5_BadHeight : Option Value}
    {f_BadHeight_init cc_BadHeight_init cda_BadHeight_init : Addr} {oc_BadHeight_init kV_BadHeight_init dc_BadHeight_init pm_BadHeight_init ct_BadHeight_init ccl_BadHeight_init cl_BadHeight_init : Value} {od_BadHeight_init an_BadHeight_init cdd_BadHeight_init cld_BadHeight_init : Option Addr} {sl_BadHeight_init cs_BadHeight_init ls_BadHeight_init : Array (Option Value)} {vs_BadHeight_init : Array Value} {fl_BadHeight_init : Str} {tf_BadHeight_init : Tok}
    {c_BadLine : Addr}
    {nm_BadLine q_BadLine : Str} {N_BadLine : Addr} {bs_BadLine bm_BadLine : List Value} {sn_BadLine : List Str} {sub_BadLine : List Value} {ab_BadLine : Bool} {col_BadLine : Option Bool} {dd_BadLine : Option Addr} {k0_BadLine k1_BadLine k2_BadLine k3_BadLine k5_BadLine : Option Value}
    {f_BadLine_init cc_BadLine_init cda_BadLine_init : Addr} {oc_BadLine_init kV_BadLine_init dc_BadLine_init pm_BadLine_init ct_BadLine_init ccl_BadLine_init cl_BadLine_init : Value} {od_BadLine_init an_BadLine_init cdd_BadLine_init cld_BadLine_init : Option Addr} {sl_BadLine_init cs_BadLine_init ls_BadLine_init : Array (Option Value)} {vs_BadLine_init : Array Value} {fl_BadLine_init : Str} {tf_BadLine_init : Tok}
    {c_BadBound : Addr}
    {nm_BadBound q_BadBound : Str} {N_BadBound : Addr} {bs_BadBound bm_BadBound : List Value} {sn_BadBound : List Str} {sub_BadBound : List Value} {ab_BadBound : Bool} {col_BadBound : Option Bool} {dd_BadBound : Option Addr} {k0_BadBound k1_BadBound k2_BadBound k3_BadBound k5_BadBound : Option Value}
    {f_BadBound_init cc_BadBound_init cda_BadBound_init : Addr} {oc_BadBound_init kV_BadBound_init dc_BadBound_init pm_BadBound_init ct_BadBound_init ccl_BadBound_init cl_BadBound_init : Value} {od_BadBound_init an_BadBound_init cdd_BadBound_init cld_BadBound_init : Option Addr} {sl_BadBound_init cs_BadBound_init ls_BadBound_init : Array (Option Value)} {vs_BadBound_init : Array Value} {fl_BadBound_init : Str} {tf_BadBound_init : Tok}
    {c_Uneven : Addr}
    {c_BadRule : Addr}
    {c_BookFull : Addr}
    {c_Row : Addr}
    {c_Rule : Addr}
    {c_Book : Addr}
    {f_check_text : Addr} {oc_check_text kV_check_text dc_check_text pm_check_text cd_check_text ct_check_text : Value} {od_check_text an_check_text : Option Addr} {sl_check_text : Array (Option Value)}
    {f_decoded : Addr} {oc_decoded kV_decoded dc_decoded pm_decoded cd_decoded ct_decoded : Value} {od_decoded an_decoded : Option Addr} {sl_decoded : Array (Option Value)}
    {f_check_height : Addr} {oc_check_height kV_check_height dc_check_height pm_check_height cd_check_height ct_check_height : Value} {od_check_height an_check_height : Option Addr} {sl_check_height : Array (Option Value)}
    {f_check_bound : Addr} {oc_check_bound kV_check_bound dc_check_bound pm_check_bound cd_check_bound ct_check_bound : Value} {od_check_bound an_check_bound : Option Addr} {sl_check_bound : Array (Option Value)}
    {f_Row_init : Addr} {oc_Row_init kV_Row_init dc_Row_init pm_Row_init cd_Row_init ct_Row_init : Value} {od_Row_init an_Row_init : Option Addr} {sl_Row_init : Array (Option Value)}
    {dT_Row_init : Addr}
    {tk0_Row_init : Tok}
    {uc_Row_init : Value} {ud_Row_init : Option Addr} {un_Row_init : Nat} {us_Row_init : Array (Option Value)}
    {f_Row_signs : Addr} {oc_Row_signs kV_Row_signs dc_Row_signs pm_Row_signs cd_Row_signs ct_Row_signs : Value} {od_Row_signs an_Row_signs : Option Addr} {sl_Row_signs : Array (Option Value)}
    {p_Row_signs : Addr} {rs_Row_signs : List Value}
    {f_Row_heights : Addr} {oc_Row_heights kV_Row_heights dc_Row_heights pm_Row_heights cd_Row_heights ct_Row_heights : Value} {od_Row_heights an_Row_heights : Option Addr} {sl_Row_heights : Array (Option Value)}
    {p_Row_heights : Addr} {rs_Row_heights : List Value}
    {f_Row_len : Addr} {oc_Row_len kV_Row_len dc_Row_len pm_Row_len cd_Row_len ct_Row_len : Value} {od_Row_len an_Row_len : Option Addr} {sl_Row_len : Array (Option Value)}
    {f_Row_iter : Addr} {oc_Row_iter kV_Row_iter dc_Row_iter pm_Row_iter cd_Row_iter ct_Row_iter : Value} {od_Row_iter an_Row_iter : Option Addr} {sl_Row_iter : Array (Option Value)}
    {f_Row_abs : Addr} {oc_Row_abs kV_Row_abs dc_Row_abs pm_Row_abs cd_Row_abs ct_Row_abs : Value} {od_Row_abs an_Row_abs : Option Addr} {sl_Row_abs : Array (Option Value)}
    {f_Rule_init : Addr} {oc_Rule_init kV_Rule_init dc_Rule_init pm_Rule_init cd_Rule_init ct_Rule_init : Value} {od_Rule_init an_Rule_init : Option Addr} {sl_Rule_init : Array (Option Value)}
    {dT_Rule_init : Addr}
    {tk0_Rule_init : Tok}
    {uc_Rule_init : Value} {ud_Rule_init : Option Addr} {un_Rule_init : Nat} {us_Rule_init : Array (Option Value)}
    {f_Rule_str : Addr} {oc_Rule_str kV_Rule_str dc_Rule_str pm_Rule_str cd_Rule_str ct_Rule_str : Value} {od_Rule_str an_Rule_str : Option Addr} {sl_Rule_str : Array (Option Value)}
    {f__fits : Addr} {oc__fits kV__fits dc__fits pm__fits cd__fits ct__fits : Value} {od__fits an__fits : Option Addr} {sl__fits : Array (Option Value)}
    {f_Book_init : Addr} {oc_Book_init kV_Book_init dc_Book_init pm_Book_init cd_Book_init ct_Book_init : Value} {od_Book_init an_Book_init : Option Addr} {sl_Book_init : Array (Option Value)}
    {f_Book_longest : Addr} {oc_Book_longest kV_Book_longest dc_Book_longest pm_Book_longest cd_Book_longest ct_Book_longest : Value} {od_Book_longest an_Book_longest : Option Addr} {sl_Book_longest : Array (Option Value)}
    {p_Book_longest : Addr} {rs_Book_longest : List Value}
    {f_Book_written : Addr} {oc_Book_written kV_Book_written dc_Book_written pm_Book_written cd_Book_written ct_Book_written : Value} {od_Book_written an_Book_written : Option Addr} {sl_Book_written : Array (Option Value)}
    {f__read_rule : Addr} {oc__read_rule kV__read_rule dc__read_rule pm__read_rule cd__read_rule ct__read_rule : Value} {od__read_rule an__read_rule : Option Addr} {sl__read_rule : Array (Option Value)}
    {f_Book_read : Addr} {oc_Book_read kV_Book_read dc_Book_read pm_Book_read cd_Book_read ct_Book_read : Value} {od_Book_read an_Book_read : Option Addr} {sl_Book_read : Array (Option Value)}
    {p_Book_read : Addr} {rs_Book_read : List Value}
    {f_Book_steps : Addr} {oc_Book_steps kV_Book_steps dc_Book_steps pm_Book_steps cd_Book_steps ct_Book_steps : Value} {od_Book_steps an_Book_steps : Option Addr} {sl_Book_steps : Array (Option Value)}
    {f_Book_powers : Addr} {oc_Book_powers kV_Book_powers dc_Book_powers pm_Book_powers cd_Book_powers ct_Book_powers : Value} {od_Book_powers an_Book_powers : Option Addr} {sl_Book_powers : Array (Option Value)}
    {f_Book_weight : Addr} {oc_Book_weight kV_Book_weight dc_Book_weight pm_Book_weight cd_Book_weight ct_Book_weight : Value} {od_Book_weight an_Book_weight : Option Addr} {sl_Book_weight : Array (Option Value)}
    {f_Book_limit : Addr} {oc_Book_limit kV_Book_limit dc_Book_limit pm_Book_limit cd_Book_limit ct_Book_limit : Value} {od_Book_limit an_Book_limit : Option Addr} {sl_Book_limit : Array (Option Value)}
    {f__law_pool : Addr} {oc__law_pool kV__law_pool dc__law_pool pm__law_pool cd__law_pool ct__law_pool : Value} {od__law_pool an__law_pool : Option Addr} {sl__law_pool : Array (Option Value)}
    {f__law_pick : Addr} {oc__law_pick kV__law_pick dc__law_pick pm__law_pick cd__law_pick ct__law_pick : Value} {od__law_pick an__law_pick : Option Addr} {sl__law_pick : Array (Option Value)}
    {f__law_alphabet : Addr} {oc__law_alphabet kV__law_alphabet dc__law_alphabet pm__law_alphabet cd__law_alphabet ct__law_alphabet : Value} {od__law_alphabet an__law_alphabet : Option Addr} {sl__law_alphabet : Array (Option Value)}
    {f__law_word_of : Addr} {oc__law_word_of kV__law_word_of dc__law_word_of pm__law_word_of cd__law_word_of ct__law_word_of : Value} {od__law_word_of an__law_word_of : Option Addr} {sl__law_word_of : Array (Option Value)}
    {f__law_book_of : Addr} {oc__law_book_of kV__law_book_of dc__law_book_of pm__law_book_of cd__law_book_of ct__law_book_of : Value} {od__law_book_of an__law_book_of : Option Addr} {sl__law_book_of : Array (Option Value)}
    {f__law_is_int : Addr} {oc__law_is_int kV__law_is_int dc__law_is_int pm__law_is_int cd__law_is_int ct__law_is_int : Value} {od__law_is_int an__law_is_int : Option Addr} {sl__law_is_int : Array (Option Value)}
    {f__law_take : Addr} {oc__law_take kV__law_take dc__law_take pm__law_take cd__law_take ct__law_take : Value} {od__law_take an__law_take : Option Addr} {sl__law_take : Array (Option Value)}
    {f__law_lines_of : Addr} {oc__law_lines_of kV__law_lines_of dc__law_lines_of pm__law_lines_of cd__law_lines_of ct__law_lines_of : Value} {od__law_lines_of an__law_lines_of : Option Addr} {sl__law_lines_of : Array (Option Value)}
    {f__law_as_row : Addr} {oc__law_as_row kV__law_as_row dc__law_as_row pm__law_as_row cd__law_as_row ct__law_as_row : Value} {od__law_as_row an__law_as_row : Option Addr} {sl__law_as_row : Array (Option Value)}
    {f__law_power : Addr} {oc__law_power kV__law_power dc__law_power pm__law_power cd__law_power ct__law_power : Value} {od__law_power an__law_power : Option Addr} {sl__law_power : Array (Option Value)}
    {f__law_due_of : Addr} {oc__law_due_of kV__law_due_of dc__law_due_of pm__law_due_of cd__law_due_of ct__law_due_of : Value} {od__law_due_of an__law_due_of : Option Addr} {sl__law_due_of : Array (Option Value)}
    {f__law_weighed : Addr} {oc__law_weighed kV__law_weighed dc__law_weighed pm__law_weighed cd__law_weighed ct__law_weighed : Value} {od__law_weighed an__law_weighed : Option Addr} {sl__law_weighed : Array (Option Value)}
    {f__law_limited : Addr} {oc__law_limited kV__law_limited dc__law_limited pm__law_limited cd__law_limited ct__law_limited : Value} {od__law_limited an__law_limited : Option Addr} {sl__law_limited : Array (Option Value)}
    {f_law : Addr} {oc_law kV_law dc_law pm_law cd_law ct_law : Value} {od_law an_law : Option Addr} {sl_law : Array (Option Value)}
    (z_abs : PySem.W.nsIn K mainGlobals "abs" = some none)
    (z_bool : PySem.W.nsIn K mainGlobals "bool" = some none)
    (z_bytes : PySem.W.nsIn K mainGlobals "bytes" = some none)
    (z_classmethod : PySem.W.nsIn K mainGlobals "classmethod" = some none)
    (z_enumerate : PySem.W.nsIn K mainGlobals "enumerate" = some none)
    (z_int : PySem.W.nsIn K mainGlobals "int" = some none)
    (z_isinstance : PySem.W.nsIn K mainGlobals "isinstance" = some none)
    (z_iter : PySem.W.nsIn K mainGlobals "iter" = some none)
    (z_len : PySem.W.nsIn K mainGlobals "len" = some none)
    (z_list : PySem.W.nsIn K mainGlobals "list" = some none)
    (z_max : PySem.W.nsIn K mainGlobals "max" = some none)
    (z_min : PySem.W.nsIn K mainGlobals "min" = some none)
    (z_property : PySem.W.nsIn K mainGlobals "property" = some none)
    (z_range : PySem.W.nsIn K mainGlobals "range" = some none)
    (z_str : PySem.W.nsIn K mainGlobals "str" = some none)
    (z_sum : PySem.W.nsIn K mainGlobals "sum" = some none)
    (z_tuple : PySem.W.nsIn K mainGlobals "tuple" = some none)
    (z_zip : PySem.W.nsIn K mainGlobals "zip" = some none)
    (a_SIGNS : PySem.W.nsIn K mainGlobals "SIGNS" = some (some (.str "abcdefghijklmnopqrstuvwxyz" tk_SIGNS)))
    (a_GREATEST_HEIGHT : PySem.W.nsIn K mainGlobals "GREATEST_HEIGHT" = some (some (.int 9 tk_GREATEST_HEIGHT)))
    (a_MOST_SIGNS : PySem.W.nsIn K mainGlobals "MOST_SIGNS" = some (some (.int 4 tk_MOST_SIGNS)))
    (a_MOST_RULES : PySem.W.nsIn K mainGlobals "MOST_RULES" = some (some (.int 6 tk_MOST_RULES)))
    (a_BadSign : PySem.W.nsIn K mainGlobals "BadSign" = some (some (.ref c_BadSign)))
    (l_BadSign : K.lookup c_BadSign = some (excClassObj nm_BadSign q_BadSign c_BadSign N_BadSign bs_BadSign bm_BadSign true sn_BadSign sub_BadSign ab_BadSign col_BadSign dd_BadSign k0_BadSign k1_BadSign k2_BadSign k3_BadSign k5_BadSign "ValueError.__new__"))
    (ve_BadSign : PySem.HandSPX.refsVE bm_BadSign = true)
    (sa_BadSign : PySem.W.findIn K (.ref c_BadSign) "__setattr__" = some (some (.builtin "object.__setattr__")))
    (eb_BadSign : PySem.W.subIn K (.ref c_BadSign) (.type "BaseException") = some true)
    (ev_BadSign : PySem.W.subIn K (.ref c_BadSign) (.type "ValueError") = some true)
    (ty_BadSign : PySem.W.typeIn K (.ref c_BadSign) = some (.type "type"))
    (kc_BadSign : PySem.W.keepIn K (.ref c_BadSign) = true)
    (ga_BadSign : PySem.W.findIn K (.ref c_BadSign) "__getattribute__" = some (some (.builtin "BaseException.__getattribute__")))
    (gg_BadSign : PySem.W.findIn K (.ref c_BadSign) "__getattr__" = some none)
    (nf_BadSign : PySem.W.findIn K (.ref c_BadSign) "at" = some none)
    (hd_BadSign : PySem.W.hasDictIn K c_BadSign = true)
    (mc_BadSign : PySem.W.mroIn K c_BadSign (.ref c_BadSign) = some true)
    (si_BadSign : PySem.W.ks_superIn K c_BadSign c_BadSign "__init__" = some (some (.builtin "ValueError.__init__")))
    (i_BadSign_init : PySem.W.findIn K (.ref c_BadSign) "__init__" = some (some (.ref f_BadSign_init)))
    (t_BadSign_init : PySem.W.typeIn K (.ref f_BadSign_init) = some (.type "function"))
    (l_BadSign_init : K.lookup f_BadSign_init = some ⟨oc_BadSign_init, od_BadSign_init, .func (PySem.W.ksFn "__init__" "BadSign.__init__" (defArgs s_BadSign_init) (defBody s_BadSign_init) (defScope s_BadSign_init) .none kV_BadSign_init dc_BadSign_init pm_BadSign_init an_BadSign_init (.ref cda_BadSign_init) ct_BadSign_init cc_BadSign_init), sl_BadSign_init⟩)
    (d_BadSign_init : PySem.W.codeIn K (.ref cda_BadSign_init) "BadSign.__init__" = true)
    (e_BadSign_init : K.lookup cda_BadSign_init = some ⟨ccl_BadSign_init, cdd_BadSign_init, .fields vs_BadSign_init, cs_BadSign_init⟩)
    (v_BadSign_init : vs_BadSign_init[2]? = some (.str fl_BadSign_init tf_BadSign_init))
    (g_BadSign_init : ((prg.main.file : Str) == fl_BadSign_init) = true)
    (h_BadSign_init : K.lookup cc_BadSign_init = some ⟨cl_BadSign_init, cld_BadSign_init, .cell (some (.ref c_BadSign)), ls_BadSign_init⟩)
    (em_BadSign_BadSign : PySem.W.exmOne K (.ref c_BadSign) (.ref c_BadSign) = some true)
    (a_BadHeight : PySem.W.nsIn K mainGlobals "BadHeight" = some (some (.ref c_BadHeight)))
    (l_BadHeight : K.lookup c_BadHeight = some (excClassObj nm_BadHeight q_BadHeight c_BadHeight N_BadHeight bs_BadHeight bm_BadHeight true sn_BadHeight sub_BadHeight ab_BadHeight col_BadHeight dd_BadHeight k0_BadHeight k1_BadHeight k2_BadHeight k3_BadHeight k5_BadHeight "ValueError.__new__"))
    (ve_BadHeight : PySem.HandSPX.refsVE bm_BadHeight = true)
    (sa_BadHeight : PySem.W.findIn K (.ref c_BadHeight) "__setattr__" = some (some (.builtin "object.__setattr__")))
    (eb_BadHeight : PySem.W.subIn K (.ref c_BadHeight) (.type "BaseException") = some true)
    (ev_BadHeight : PySem.W.subIn K (.ref c_BadHeight) (.type "ValueError") = some true)
    (ty_BadHeight : PySem.W.typeIn K (.ref c_BadHeight) = some (.type "type"))
    (kc_BadHeight : PySem.W.keepIn K (.ref c_BadHeight) = true)
    (ga_BadHeight : PySem.W.findIn K (.ref c_BadHeight) "__getattribute__" = some (some (.builtin "BaseException.__getattribute__")))
    (gg_BadHeight : PySem.W.findIn K (.ref c_BadHeight) "__getattr__" = some none)
    (nf_BadHeight : PySem.W.findIn K (.ref c_BadHeight) "height" = some none)
    (hd_BadHeight : PySem.W.hasDictIn K c_BadHeight = true)
    (mc_BadHeight : PySem.W.mroIn K c_BadHeight (.ref c_BadHeight) = some true)
    (si_BadHeight : PySem.W.ks_superIn K c_BadHeight c_BadHeight "__init__" = some (some (.builtin "ValueError.__init__")))
    (i_BadHeight_init : PySem.W.findIn K (.ref c_BadHeight) "__init__" = some (some (.ref f_BadHeight_init)))
    (t_BadHeight_init : PySem.W.typeIn K (.ref f_BadHeight_init) = some (.type "function"))
    (l_BadHeight_init : K.lookup f_BadHeight_init = some ⟨oc_BadHeight_init, od_BadHeight_init, .func (PySem.W.ksFn "__init__" "BadHeight.__init__" (defArgs s_BadHeight_init) (defBody s_BadHeight_init) (defScope s_BadHeight_init) .none kV_BadHeight_init dc_BadHeight_init pm_BadHeight_init an_BadHeight_init (.ref cda_BadHeight_init) ct_BadHeight_init cc_BadHeight_init), sl_BadHeight_init⟩)
    (d_BadHeight_init : PySem.W.codeIn K (.ref cda_BadHeight_init) "BadHeight.__init__" = true)
    (e_BadHeight_init : K.lookup cda_BadHeight_init = some ⟨ccl_BadHeight_init, cdd_BadHeight_init, .fields vs_BadHeight_init, cs_BadHeight_init⟩)
    (v_BadHeight_init : vs_BadHeight_init[2]? = some (.str fl_BadHeight_init tf_BadHeight_init))
    (g_BadHeight_init : ((prg.main.file : Str) == fl_BadHeight_init) = true)
    (h_BadHeight_init : K.lookup cc_BadHeight_init = some ⟨cl_BadHeight_init, cld_BadHeight_init, .cell (some (.ref c_BadHeight)), ls_BadHeight_init⟩)
    (em_BadHeight_BadSign : PySem.W.exmOne K (.ref c_BadHeight) (.ref c_BadSign) = some false)
    (em_BadHeight_BadHeight : PySem.W.exmOne K (.ref c_BadHeight) (.ref c_BadHeight) = some true)
    (a_BadLine : PySem.W.nsIn K mainGlobals "BadLine" = some (some (.ref c_BadLine)))
    (l_BadLine : K.lookup c_BadLine = some (excClassObj nm_BadLine q_BadLine c_BadLine N_BadLine bs_BadLine bm_BadLine true sn_BadLine sub_BadLine ab_BadLine col_BadLine dd_BadLine k0_BadLine k1_BadLine k2_BadLine k3_BadLine k5_BadLine "ValueError.__new__"))
    (ve_BadLine : PySem.HandSPX.refsVE bm_BadLine = true)
    (sa_BadLine : PySem.W.findIn K (.ref c_BadLine) "__setattr__" = some (some (.builtin "object.__setattr__")))
    (eb_BadLine : PySem.W.subIn K (.ref c_BadLine) (.type "BaseException") = some true)
    (ev_BadLine : PySem.W.subIn K (.ref c_BadLine) (.type "ValueError") = some true)
    (ty_BadLine : PySem.W.typeIn K (.ref c_BadLine) = some (.type "type"))
    (kc_BadLine : PySem.W.keepIn K (.ref c_BadLine) = true)
    (ga_BadLine : PySem.W.findIn K (.ref c_BadLine) "__getattribute__" = some (some (.builtin "BaseException.__getattribute__")))
    (gg_BadLine : PySem.W.findIn K (.ref c_BadLine) "__getattr__" = some none)
    (nf_BadLine : PySem.W.findIn K (.ref c_BadLine) "line" = some none)
    (hd_BadLine : PySem.W.hasDictIn K c_BadLine = true)
    (mc_BadLine : PySem.W.mroIn K c_BadLine (.ref c_BadLine) = some true)
    (si_BadLine : PySem.W.ks_superIn K c_BadLine c_BadLine "__init__" = some (some (.builtin "ValueError.__init__")))
    (i_BadLine_init : PySem.W.findIn K (.ref c_BadLine) "__init__" = some (some (.ref f_BadLine_init)))
    (t_BadLine_init : PySem.W.typeIn K (.ref f_BadLine_init) = some (.type "function"))
    (l_BadLine_init : K.lookup f_BadLine_init = some ⟨oc_BadLine_init, od_BadLine_init, .func (PySem.W.ksFn "__init__" "BadLine.__init__" (defArgs s_BadLine_init) (defBody s_BadLine_init) (defScope s_BadLine_init) .none kV_BadLine_init dc_BadLine_init pm_BadLine_init an_BadLine_init (.ref cda_BadLine_init) ct_BadLine_init cc_BadLine_init), sl_BadLine_init⟩)
    (d_BadLine_init : PySem.W.codeIn K (.ref cda_BadLine_init) "BadLine.__init__" = true)
    (e_BadLine_init : K.lookup cda_BadLine_init = some ⟨ccl_BadLine_init, cdd_BadLine_init, .fields vs_BadLine_init, cs_BadLine_init⟩)
    (v_BadLine_init : vs_BadLine_init[2]? = some (.str fl_BadLine_init tf_BadLine_init))
    (g_BadLine_init : ((prg.main.file : Str) == fl_BadLine_init) = true)
    (h_BadLine_init : K.lookup cc_BadLine_init = some ⟨cl_BadLine_init, cld_BadLine_init, .cell (some (.ref c_BadLine)), ls_BadLine_init⟩)
    (em_BadLine_BadSign : PySem.W.exmOne K (.ref c_BadLine) (.ref c_BadSign) = some false)
    (em_BadLine_BadHeight : PySem.W.exmOne K (.ref c_BadLine) (.ref c_BadHeight) = some false)
    (em_BadLine_BadLine : PySem.W.exmOne K (.ref c_BadLine) (.ref c_BadLine) = some true)
    (a_BadBound : PySem.W.nsIn K mainGlobals "BadBound" = some (some (.ref c_BadBound)))
    (l_BadBound : K.lookup c_BadBound = some (excClassObj nm_BadBound q_BadBound c_BadBound N_BadBound bs_BadBound bm_BadBound true sn_BadBound sub_BadBound ab_BadBound col_BadBound dd_BadBound k0_BadBound k1_BadBound k2_BadBound k3_BadBound k5_BadBound "ValueError.__new__"))
    (ve_BadBound : PySem.HandSPX.refsVE bm_BadBound = true)
    (sa_BadBound : PySem.W.findIn K (.ref c_BadBound) "__setattr__" = some (some (.builtin "object.__setattr__")))
    (eb_BadBound : PySem.W.subIn K (.ref c_BadBound) (.type "BaseException") = some true)
    (ev_BadBound : PySem.W.subIn K (.ref c_BadBound) (.type "ValueError") = some true)
    (ty_BadBound : PySem.W.typeIn K (.ref c_BadBound) = some (.type "type"))
    (kc_BadBound : PySem.W.keepIn K (.ref c_BadBound) = true)
    (ga_BadBound : PySem.W.findIn K (.ref c_BadBound) "__getattribute__" = some (some (.builtin "BaseException.__getattribute__")))
    (gg_BadBound : PySem.W.findIn K (.ref c_BadBound) "__getattr__" = some none)
    (nf_BadBound : PySem.W.findIn K (.ref c_BadBound) "most" = some none)
    (hd_BadBound : PySem.W.hasDictIn K c_BadBound = true)
    (mc_BadBound : PySem.W.mroIn K c_BadBound (.ref c_BadBound) = some true)
    (si_BadBound : PySem.W.ks_superIn K c_BadBound c_BadBound "__init__" = some (some (.builtin "ValueError.__init__")))
    (i_BadBound_init : PySem.W.findIn K (.ref c_BadBound) "__init__" = some (some (.ref f_BadBound_init)))
    (t_BadBound_init : PySem.W.typeIn K (.ref f_BadBound_init) = some (.type "function"))
    (l_BadBound_init : K.lookup f_BadBound_init = some ⟨oc_BadBound_init, od_BadBound_init, .func (PySem.W.ksFn "__init__" "BadBound.__init__" (defArgs s_BadBound_init) (defBody s_BadBound_init) (defScope s_BadBound_init) .none kV_BadBound_init dc_BadBound_init pm_BadBound_init an_BadBound_init (.ref cda_BadBound_init) ct_BadBound_init cc_BadBound_init), sl_BadBound_init⟩)
    (d_BadBound_init : PySem.W.codeIn K (.ref cda_BadBound_init) "BadBound.__init__" = true)
    (e_BadBound_init : K.lookup cda_BadBound_init = some ⟨ccl_BadBound_init, cdd_BadBound_init, .fields vs_BadBound_init, cs_BadBound_init⟩)
    (v_BadBound_init : vs_BadBound_init[2]? = some (.str fl_BadBound_init tf_BadBound_init))
    (g_BadBound_init : ((prg.main.file : Str) == fl_BadBound_init) = true)
    (h_BadBound_init : K.lookup cc_BadBound_init = some ⟨cl_BadBound_init, cld_BadBound_init, .cell (some (.ref c_BadBound)), ls_BadBound_init⟩)
    (em_BadBound_BadSign : PySem.W.exmOne K (.ref c_BadBound) (.ref c_BadSign) = some false)
    (em_BadBound_BadHeight : PySem.W.exmOne K (.ref c_BadBound) (.ref c_BadHeight) = some false)
    (em_BadBound_BadLine : PySem.W.exmOne K (.ref c_BadBound) (.ref c_BadLine) = some false)
    (em_BadBound_BadBound : PySem.W.exmOne K (.ref c_BadBound) (.ref c_BadBound) = some true)
    (a_Uneven : PySem.W.nsIn K mainGlobals "Uneven" = some (some (.ref c_Uneven)))
    (o_Uneven : PySem.W.excIn K c_Uneven [.type "ValueError", .type "Exception", .type "BaseException", .type "object"] "ValueError.__new__" = true)
    (kp_Uneven : PySem.W.keepIn K (.ref c_Uneven) = true)
    (r_Uneven : PySem.W.subIn K (.ref c_Uneven) (.type "BaseException") = some true)
    (t_Uneven : PySem.W.typeIn K (.ref c_Uneven) = some (.type "type"))
    (em_Uneven_BadSign : PySem.W.exmOne K (.ref c_Uneven) (.ref c_BadSign) = some false)
    (em_Uneven_BadHeight : PySem.W.exmOne K (.ref c_Uneven) (.ref c_BadHeight) = some false)
    (em_Uneven_BadLine : PySem.W.exmOne K (.ref c_Uneven) (.ref c_BadLine) = some false)
    (em_Uneven_BadBound : PySem.W.exmOne K (.ref c_Uneven) (.ref c_BadBound) = some false)
    (em_Uneven_Uneven : PySem.W.exmOne K (.ref c_Uneven) (.ref c_Uneven) = some true)
    (a_BadRule : PySem.W.nsIn K mainGlobals "BadRule" = some (some (.ref c_BadRule)))
    (o_BadRule : PySem.W.excIn K c_BadRule [.type "ValueError", .type "Exception", .type "BaseException", .type "object"] "ValueError.__new__" = true)
    (kp_BadRule : PySem.W.keepIn K (.ref c_BadRule) = true)
    (r_BadRule : PySem.W.subIn K (.ref c_BadRule) (.type "BaseException") = some true)
    (t_BadRule : PySem.W.typeIn K (.ref c_BadRule) = some (.type "type"))
    (em_BadRule_BadSign : PySem.W.exmOne K (.ref c_BadRule) (.ref c_BadSign) = some false)
    (em_BadRule_BadHeight : PySem.W.exmOne K (.ref c_BadRule) (.ref c_BadHeight) = some false)
    (em_BadRule_BadLine : PySem.W.exmOne K (.ref c_BadRule) (.ref c_BadLine) = some false)
    (em_BadRule_BadBound : PySem.W.exmOne K (.ref c_BadRule) (.ref c_BadBound) = some false)
    (em_BadRule_Uneven : PySem.W.exmOne K (.ref c_BadRule) (.ref c_Uneven) = some false)
    (em_BadRule_BadRule : PySem.W.exmOne K (.ref c_BadRule) (.ref c_BadRule) = some true)
    (a_BookFull : PySem.W.nsIn K mainGlobals "BookFull" = some (some (.ref c_BookFull)))
    (o_BookFull : PySem.W.excIn K c_BookFull [.type "ValueError", .type "Exception", .type "BaseException", .type "object"] "ValueError.__new__" = true)
    (kp_BookFull : PySem.W.keepIn K (.ref c_BookFull) = true)
    (r_BookFull : PySem.W.subIn K (.ref c_BookFull) (.type "BaseException") = some true)
    (t_BookFull : PySem.W.typeIn K (.ref c_BookFull) = some (.type "type"))
    (em_BookFull_BadSign : PySem.W.exmOne K (.ref c_BookFull) (.ref c_BadSign) = some false)
    (em_BookFull_BadHeight : PySem.W.exmOne K (.ref c_BookFull) (.ref c_BadHeight) = some false)
    (em_BookFull_BadLine : PySem.W.exmOne K (.ref c_BookFull) (.ref c_BadLine) = some false)
    (em_BookFull_BadBound : PySem.W.exmOne K (.ref c_BookFull) (.ref c_BadBound) = some false)
    (em_BookFull_Uneven : PySem.W.exmOne K (.ref c_BookFull) (.ref c_Uneven) = some false)
    (em_BookFull_BadRule : PySem.W.exmOne K (.ref c_BookFull) (.ref c_BadRule) = some false)
    (em_BookFull_BookFull : PySem.W.exmOne K (.ref c_BookFull) (.ref c_BookFull) = some true)
    (em_BadSign_BadHeight : PySem.W.exmOne K (.ref c_BadSign) (.ref c_BadHeight) = some false)
    (em_BadSign_BadLine : PySem.W.exmOne K (.ref c_BadSign) (.ref c_BadLine) = some false)
    (em_BadSign_BadBound : PySem.W.exmOne K (.ref c_BadSign) (.ref c_BadBound) = some false)
    (em_BadSign_Uneven : PySem.W.exmOne K (.ref c_BadSign) (.ref c_Uneven) = some false)
    (em_BadSign_BadRule : PySem.W.exmOne K (.ref c_BadSign) (.ref c_BadRule) = some false)
    (em_BadSign_BookFull : PySem.W.exmOne K (.ref c_BadSign) (.ref c_BookFull) = some false)
    (em_BadHeight_BadLine : PySem.W.exmOne K (.ref c_BadHeight) (.ref c_BadLine) = some false)
    (em_BadHeight_BadBound : PySem.W.exmOne K (.ref c_BadHeight) (.ref c_BadBound) = some false)
    (em_BadHeight_Uneven : PySem.W.exmOne K (.ref c_BadHeight) (.ref c_Uneven) = some false)
    (em_BadHeight_BadRule : PySem.W.exmOne K (.ref c_BadHeight) (.ref c_BadRule) = some false)
    (em_BadHeight_BookFull : PySem.W.exmOne K (.ref c_BadHeight) (.ref c_BookFull) = some false)
    (em_BadLine_BadBound : PySem.W.exmOne K (.ref c_BadLine) (.ref c_BadBound) = some false)
    (em_BadLine_Uneven : PySem.W.exmOne K (.ref c_BadLine) (.ref c_Uneven) = some false)
    (em_BadLine_BadRule : PySem.W.exmOne K (.ref c_BadLine) (.ref c_BadRule) = some false)
    (em_BadLine_BookFull : PySem.W.exmOne K (.ref c_BadLine) (.ref c_BookFull) = some false)
    (em_BadBound_Uneven : PySem.W.exmOne K (.ref c_BadBound) (.ref c_Uneven) = some false)
    (em_BadBound_BadRule : PySem.W.exmOne K (.ref c_BadBound) (.ref c_BadRule) = some false)
    (em_BadBound_BookFull : PySem.W.exmOne K (.ref c_BadBound) (.ref c_BookFull) = some false)
    (em_Uneven_BadRule : PySem.W.exmOne K (.ref c_Uneven) (.ref c_BadRule) = some false)
    (em_Uneven_BookFull : PySem.W.exmOne K (.ref c_Uneven) (.ref c_BookFull) = some false)
    (em_BadRule_BookFull : PySem.W.exmOne K (.ref c_BadRule) (.ref c_BookFull) = some false)
    (z_super : PySem.W.nsIn K mainGlobals "super" = some none)
    (ops : PySem.W.nsIn K cStatics "thirdparty.any" = some none)
    (a_Row : PySem.W.nsIn K mainGlobals "Row" = some (some (.ref c_Row)))
    (pg_Row : PySem.W.plainGet K c_Row Str.empty = true)
    (hd_Row : PySem.W.hasDictIn K c_Row = true)
    (po_Row : PySem.W.plainOver K c_Row = true)
    (sa_Row : PySem.W.findIn K (.ref c_Row) "__setattr__" = some (some (.builtin "object.__setattr__")))
    (mk_Row : PySem.W.makesIn K c_Row = true)
    (kc_Row : PySem.W.keepIn K (.ref c_Row) = true)
    (j0_Row : PySem.W.findIn K (.ref c_Row) "__class__" = some (some (.builtin "object.__class__")))
    (j1_Row : PySem.W.specialIn K (.builtin "object.__class__") "__get__" = some (some (.builtin "getset_descriptor.__get__")))
    (j2_Row : PySem.W.takesIn K (.builtin "object.__class__") = some true)
    (j3_Row : PySem.W.mroIn K c_Row (.type "object") = some true)
    (j4_Row : PySem.W.kitOne K (.ref c_Row) (.ref c_Row) = some true)
    (sf_Row : PySem.W.selfFirst K c_Row = true)
    (nsq_Row : PySem.W.noSeq K c_Row = true)
    (na_Row__pairs : PySem.W.findIn K (.ref c_Row) "_pairs" = some none)
    (a_Rule : PySem.W.nsIn K mainGlobals "Rule" = some (some (.ref c_Rule)))
    (pg_Rule : PySem.W.plainGet K c_Rule Str.empty = true)
    (hd_Rule : PySem.W.hasDictIn K c_Rule = true)
    (po_Rule : PySem.W.plainOver K c_Rule = true)
    (sa_Rule : PySem.W.findIn K (.ref c_Rule) "__setattr__" = some (some (.builtin "object.__setattr__")))
    (mk_Rule : PySem.W.makesIn K c_Rule = true)
    (kc_Rule : PySem.W.keepIn K (.ref c_Rule) = true)
    (j0_Rule : PySem.W.findIn K (.ref c_Rule) "__class__" = some (some (.builtin "object.__class__")))
    (j1_Rule : PySem.W.specialIn K (.builtin "object.__class__") "__get__" = some (some (.builtin "getset_descriptor.__get__")))
    (j2_Rule : PySem.W.takesIn K (.builtin "object.__class__") = some true)
    (j3_Rule : PySem.W.mroIn K c_Rule (.type "object") = some true)
    (j4_Rule : PySem.W.kitOne K (.ref c_Rule) (.ref c_Rule) = some true)
    (sf_Rule : PySem.W.selfFirst K c_Rule = true)
    (na_Rule_left : PySem.W.findIn K (.ref c_Rule) "left" = some none)
    (na_Rule_right : PySem.W.findIn K (.ref c_Rule) "right" = some none)
    (a_Book : PySem.W.nsIn K mainGlobals "Book" = some (some (.ref c_Book)))
    (pg_Book : PySem.W.plainGet K c_Book Str.empty = true)
    (hd_Book : PySem.W.hasDictIn K c_Book = true)
    (po_Book : PySem.W.plainOver K c_Book = true)
    (sa_Book : PySem.W.findIn K (.ref c_Book) "__setattr__" = some (some (.builtin "object.__setattr__")))
    (mk_Book : PySem.W.makesIn K c_Book = true)
    (kc_Book : PySem.W.keepIn K (.ref c_Book) = true)
    (j0_Book : PySem.W.findIn K (.ref c_Book) "__class__" = some (some (.builtin "object.__class__")))
    (j1_Book : PySem.W.specialIn K (.builtin "object.__class__") "__get__" = some (some (.builtin "getset_descriptor.__get__")))
    (j2_Book : PySem.W.takesIn K (.builtin "object.__class__") = some true)
    (j3_Book : PySem.W.mroIn K c_Book (.type "object") = some true)
    (j4_Book : PySem.W.kitOne K (.ref c_Book) (.ref c_Book) = some true)
    (sf_Book : PySem.W.selfFirst K c_Book = true)
    (na_Book__rules : PySem.W.findIn K (.ref c_Book) "_rules" = some none)
    (a_check_text : PySem.W.nsIn K mainGlobals "check_text" = some (some (.ref f_check_text)))
    (l_check_text : K.lookup f_check_text = some ⟨oc_check_text, od_check_text, .func (PySem.W.fnOf "check_text" "check_text" (defArgs s_check_text) (defBody s_check_text) (defScope s_check_text) .none kV_check_text dc_check_text pm_check_text an_check_text cd_check_text ct_check_text), sl_check_text⟩)
    (d_check_text : PySem.W.codeIn K cd_check_text "check_text" = true)
    (k_check_text : PySem.W.keepIn K (.ref f_check_text) = true)
    (a_decoded : PySem.W.nsIn K mainGlobals "decoded" = some (some (.ref f_decoded)))
    (l_decoded : K.lookup f_decoded = some ⟨oc_decoded, od_decoded, .func (PySem.W.fnOf "decoded" "decoded" (defArgs s_decoded) (defBody s_decoded) (defScope s_decoded) .none kV_decoded dc_decoded pm_decoded an_decoded cd_decoded ct_decoded), sl_decoded⟩)
    (d_decoded : PySem.W.codeIn K cd_decoded "decoded" = true)
    (k_decoded : PySem.W.keepIn K (.ref f_decoded) = true)
    (a_check_height : PySem.W.nsIn K mainGlobals "check_height" = some (some (.ref f_check_height)))
    (l_check_height : K.lookup f_check_height = some ⟨oc_check_height, od_check_height, .func (PySem.W.fnOf "check_height" "check_height" (defArgs s_check_height) (defBody s_check_height) (defScope s_check_height) .none kV_check_height dc_check_height pm_check_height an_check_height cd_check_height ct_check_height), sl_check_height⟩)
    (d_check_height : PySem.W.codeIn K cd_check_height "check_height" = true)
    (k_check_height : PySem.W.keepIn K (.ref f_check_height) = true)
    (a_check_bound : PySem.W.nsIn K mainGlobals "check_bound" = some (some (.ref f_check_bound)))
    (l_check_bound : K.lookup f_check_bound = some ⟨oc_check_bound, od_check_bound, .func (PySem.W.fnOf "check_bound" "check_bound" (defArgs s_check_bound) (defBody s_check_bound) (defScope s_check_bound) .none kV_check_bound dc_check_bound pm_check_bound an_check_bound cd_check_bound ct_check_bound), sl_check_bound⟩)
    (d_check_bound : PySem.W.codeIn K cd_check_bound "check_bound" = true)
    (k_check_bound : PySem.W.keepIn K (.ref f_check_bound) = true)
    (a_Row_init : PySem.W.findIn K (.ref c_Row) "__init__" = some (some (.ref f_Row_init)))
    (i_Row_init : PySem.W.isFn K (.ref f_Row_init) = true)
    (l_Row_init : K.lookup f_Row_init = some ⟨oc_Row_init, od_Row_init, .func (PySem.W.fnOf "__init__" "Row.__init__" (defArgs s_Row_init) (defBody s_Row_init) (defScope s_Row_init) (.ref dT_Row_init) kV_Row_init dc_Row_init pm_Row_init an_Row_init cd_Row_init ct_Row_init), sl_Row_init⟩)
    (d_Row_init : PySem.W.codeIn K cd_Row_init "Row.__init__" = true)
    (k_Row_init : PySem.W.keepIn K (.ref f_Row_init) = true)
    (u_Row_init : K.lookup dT_Row_init = some ⟨uc_Row_init, ud_Row_init, .seq ([.str "" tk0_Row_init, .none] : List Value).toArray un_Row_init, us_Row_init⟩)
    (a_Row_signs : PySem.W.findIn K (.ref c_Row) "signs" = some (some (.ref p_Row_signs)))
    (pg_Row_signs : PySem.W.specialIn K (.ref p_Row_signs) "__get__" = some (some (.builtin "property.__get__")))
    (pt_Row_signs : PySem.W.takesIn K (.ref p_Row_signs) = some true)
    (pr_Row_signs : PySem.W.recIn K p_Row_signs "property" = some (.ref f_Row_signs :: rs_Row_signs))
    (l_Row_signs : K.lookup f_Row_signs = some ⟨oc_Row_signs, od_Row_signs, .func (PySem.W.fnOf "signs" "Row.signs" (defArgs s_Row_signs) (defBody s_Row_signs) (defScope s_Row_signs) .none kV_Row_signs dc_Row_signs pm_Row_signs an_Row_signs cd_Row_signs ct_Row_signs), sl_Row_signs⟩)
    (d_Row_signs : PySem.W.codeIn K cd_Row_signs "Row.signs" = true)
    (k_Row_signs : PySem.W.keepIn K (.ref f_Row_signs) = true)
    (a_Row_heights : PySem.W.findIn K (.ref c_Row) "heights" = some (some (.ref p_Row_heights)))
    (pg_Row_heights : PySem.W.specialIn K (.ref p_Row_heights) "__get__" = some (some (.builtin "property.__get__")))
    (pt_Row_heights : PySem.W.takesIn K (.ref p_Row_heights) = some true)
    (pr_Row_heights : PySem.W.recIn K p_Row_heights "property" = some (.ref f_Row_heights :: rs_Row_heights))
    (l_Row_heights : K.lookup f_Row_heights = some ⟨oc_Row_heights, od_Row_heights, .func (PySem.W.fnOf "heights" "Row.heights" (defArgs s_Row_heights) (defBody s_Row_heights) (defScope s_Row_heights) .none kV_Row_heights dc_Row_heights pm_Row_heights an_Row_heights cd_Row_heights ct_Row_heights), sl_Row_heights⟩)
    (d_Row_heights : PySem.W.codeIn K cd_Row_heights "Row.heights" = true)
    (k_Row_heights : PySem.W.keepIn K (.ref f_Row_heights) = true)
    (a_Row_len : PySem.W.findIn K (.ref c_Row) "__len__" = some (some (.ref f_Row_len)))
    (i_Row_len : PySem.W.isFn K (.ref f_Row_len) = true)
    (l_Row_len : K.lookup f_Row_len = some ⟨oc_Row_len, od_Row_len, .func (PySem.W.fnOf "__len__" "Row.__len__" (defArgs s_Row_len) (defBody s_Row_len) (defScope s_Row_len) .none kV_Row_len dc_Row_len pm_Row_len an_Row_len cd_Row_len ct_Row_len), sl_Row_len⟩)
    (d_Row_len : PySem.W.codeIn K cd_Row_len "Row.__len__" = true)
    (k_Row_len : PySem.W.keepIn K (.ref f_Row_len) = true)
    (a_Row_iter : PySem.W.findIn K (.ref c_Row) "__iter__" = some (some (.ref f_Row_iter)))
    (i_Row_iter : PySem.W.isFn K (.ref f_Row_iter) = true)
    (l_Row_iter : K.lookup f_Row_iter = some ⟨oc_Row_iter, od_Row_iter, .func (PySem.W.fnOf "__iter__" "Row.__iter__" (defArgs s_Row_iter) (defBody s_Row_iter) (defScope s_Row_iter) .none kV_Row_iter dc_Row_iter pm_Row_iter an_Row_iter cd_Row_iter ct_Row_iter), sl_Row_iter⟩)
    (d_Row_iter : PySem.W.codeIn K cd_Row_iter "Row.__iter__" = true)
    (k_Row_iter : PySem.W.keepIn K (.ref f_Row_iter) = true)
    (a_Row_abs : PySem.W.findIn K (.ref c_Row) "__abs__" = some (some (.ref f_Row_abs)))
    (i_Row_abs : PySem.W.isFn K (.ref f_Row_abs) = true)
    (l_Row_abs : K.lookup f_Row_abs = some ⟨oc_Row_abs, od_Row_abs, .func (PySem.W.fnOf "__abs__" "Row.__abs__" (defArgs s_Row_abs) (defBody s_Row_abs) (defScope s_Row_abs) .none kV_Row_abs dc_Row_abs pm_Row_abs an_Row_abs cd_Row_abs ct_Row_abs), sl_Row_abs⟩)
    (d_Row_abs : PySem.W.codeIn K cd_Row_abs "Row.__abs__" = true)
    (k_Row_abs : PySem.W.keepIn K (.ref f_Row_abs) = true)
    (a_Rule_init : PySem.W.findIn K (.ref c_Rule) "__init__" = some (some (.ref f_Rule_init)))
    (i_Rule_init : PySem.W.isFn K (.ref f_Rule_init) = true)
    (l_Rule_init : K.lookup f_Rule_init = some ⟨oc_Rule_init, od_Rule_init, .func (PySem.W.fnOf "__init__" "Rule.__init__" (defArgs s_Rule_init) (defBody s_Rule_init) (defScope s_Rule_init) (.ref dT_Rule_init) kV_Rule_init dc_Rule_init pm_Rule_init an_Rule_init cd_Rule_init ct_Rule_init), sl_Rule_init⟩)
    (d_Rule_init : PySem.W.codeIn K cd_Rule_init "Rule.__init__" = true)
    (k_Rule_init : PySem.W.keepIn K (.ref f_Rule_init) = true)
    (u_Rule_init : K.lookup dT_Rule_init = some ⟨uc_Rule_init, ud_Rule_init, .seq ([.str "" tk0_Rule_init] : List Value).toArray un_Rule_init, us_Rule_init⟩)
    (a_Rule_str : PySem.W.findIn K (.ref c_Rule) "__str__" = some (some (.ref f_Rule_str)))
    (i_Rule_str : PySem.W.isFn K (.ref f_Rule_str) = true)
    (l_Rule_str : K.lookup f_Rule_str = some ⟨oc_Rule_str, od_Rule_str, .func (PySem.W.fnOf "__str__" "Rule.__str__" (defArgs s_Rule_str) (defBody s_Rule_str) (defScope s_Rule_str) .none kV_Rule_str dc_Rule_str pm_Rule_str an_Rule_str cd_Rule_str ct_Rule_str), sl_Rule_str⟩)
    (d_Rule_str : PySem.W.codeIn K cd_Rule_str "Rule.__str__" = true)
    (k_Rule_str : PySem.W.keepIn K (.ref f_Rule_str) = true)
    (a__fits : PySem.W.nsIn K mainGlobals "_fits" = some (some (.ref f__fits)))
    (l__fits : K.lookup f__fits = some ⟨oc__fits, od__fits, .func (PySem.W.fnOf "_fits" "_fits" (defArgs s__fits) (defBody s__fits) (defScope s__fits) .none kV__fits dc__fits pm__fits an__fits cd__fits ct__fits), sl__fits⟩)
    (d__fits : PySem.W.codeIn K cd__fits "_fits" = true)
    (k__fits : PySem.W.keepIn K (.ref f__fits) = true)
    (a_Book_init : PySem.W.findIn K (.ref c_Book) "__init__" = some (some (.ref f_Book_init)))
    (i_Book_init : PySem.W.isFn K (.ref f_Book_init) = true)
    (l_Book_init : K.lookup f_Book_init = some ⟨oc_Book_init, od_Book_init, .func (PySem.W.fnOf "__init__" "Book.__init__" (defArgs s_Book_init) (defBody s_Book_init) (defScope s_Book_init) .none kV_Book_init dc_Book_init pm_Book_init an_Book_init cd_Book_init ct_Book_init), sl_Book_init⟩)
    (d_Book_init : PySem.W.codeIn K cd_Book_init "Book.__init__" = true)
    (k_Book_init : PySem.W.keepIn K (.ref f_Book_init) = true)
    (a_Book_longest : PySem.W.findIn K (.ref c_Book) "longest" = some (some (.ref p_Book_longest)))
    (pg_Book_longest : PySem.W.specialIn K (.ref p_Book_longest) "__get__" = some (some (.builtin "property.__get__")))
    (pt_Book_longest : PySem.W.takesIn K (.ref p_Book_longest) = some true)
    (pr_Book_longest : PySem.W.recIn K p_Book_longest "property" = some (.ref f_Book_longest :: rs_Book_longest))
    (l_Book_longest : K.lookup f_Book_longest = some ⟨oc_Book_longest, od_Book_longest, .func (PySem.W.fnOf "longest" "Book.longest" (defArgs s_Book_longest) (defBody s_Book_longest) (defScope s_Book_longest) .none kV_Book_longest dc_Book_longest pm_Book_longest an_Book_longest cd_Book_longest ct_Book_longest), sl_Book_longest⟩)
    (d_Book_longest : PySem.W.codeIn K cd_Book_longest "Book.longest" = true)
    (k_Book_longest : PySem.W.keepIn K (.ref f_Book_longest) = true)
    (a_Book_written : PySem.W.findIn K (.ref c_Book) "written" = some (some (.ref f_Book_written)))
    (i_Book_written : PySem.W.isFn K (.ref f_Book_written) = true)
    (l_Book_written : K.lookup f_Book_written = some ⟨oc_Book_written, od_Book_written, .func (PySem.W.fnOf "written" "Book.written" (defArgs s_Book_written) (defBody s_Book_written) (defScope s_Book_written) .none kV_Book_written dc_Book_written pm_Book_written an_Book_written cd_Book_written ct_Book_written), sl_Book_written⟩)
    (d_Book_written : PySem.W.codeIn K cd_Book_written "Book.written" = true)
    (k_Book_written : PySem.W.keepIn K (.ref f_Book_written) = true)
    (a__read_rule : PySem.W.nsIn K mainGlobals "_read_rule" = some (some (.ref f__read_rule)))
    (l__read_rule : K.lookup f__read_rule = some ⟨oc__read_rule, od__read_rule, .func (PySem.W.fnOf "_read_rule" "_read_rule" (defArgs s__read_rule) (defBody s__read_rule) (defScope s__read_rule) .none kV__read_rule dc__read_rule pm__read_rule an__read_rule cd__read_rule ct__read_rule), sl__read_rule⟩)
    (d__read_rule : PySem.W.codeIn K cd__read_rule "_read_rule" = true)
    (k__read_rule : PySem.W.keepIn K (.ref f__read_rule) = true)
    (cr1_Book_read : PySem.W.readsIn K c_Book (.type "type") = true)
    (cr2_Book_read : PySem.W.specialIn K (.ref c_Book) "__getattribute__" = some (some (.builtin "type.__getattribute__")))
    (a_Book_read : PySem.W.findCls K (.ref c_Book) (.type "type") "read" = some (.get (.builtin "classmethod.__get__") (.ref p_Book_read) .none (.ref c_Book)))
    (pr_Book_read : PySem.W.recIn K p_Book_read "classmethod" = some (.ref f_Book_read :: rs_Book_read))
    (fi_Book_read : PySem.W.fnIn K f_Book_read = true)
    (l_Book_read : K.lookup f_Book_read = some ⟨oc_Book_read, od_Book_read, .func (PySem.W.fnOf "read" "Book.read" (defArgs s_Book_read) (defBody s_Book_read) (defScope s_Book_read) .none kV_Book_read dc_Book_read pm_Book_read an_Book_read cd_Book_read ct_Book_read), sl_Book_read⟩)
    (d_Book_read : PySem.W.codeIn K cd_Book_read "Book.read" = true)
    (k_Book_read : PySem.W.keepIn K (.ref f_Book_read) = true)
    (a_Book_steps : PySem.W.findIn K (.ref c_Book) "steps" = some (some (.ref f_Book_steps)))
    (i_Book_steps : PySem.W.isFn K (.ref f_Book_steps) = true)
    (l_Book_steps : K.lookup f_Book_steps = some ⟨oc_Book_steps, od_Book_steps, .func (PySem.W.fnOf "steps" "Book.steps" (defArgs s_Book_steps) (defBody s_Book_steps) (defScope s_Book_steps) .none kV_Book_steps dc_Book_steps pm_Book_steps an_Book_steps cd_Book_steps ct_Book_steps), sl_Book_steps⟩)
    (d_Book_steps : PySem.W.codeIn K cd_Book_steps "Book.steps" = true)
    (k_Book_steps : PySem.W.keepIn K (.ref f_Book_steps) = true)
    (a_Book_powers : PySem.W.findIn K (.ref c_Book) "_powers" = some (some (.ref f_Book_powers)))
    (i_Book_powers : PySem.W.isFn K (.ref f_Book_powers) = true)
    (l_Book_powers : K.lookup f_Book_powers = some ⟨oc_Book_powers, od_Book_powers, .func (PySem.W.fnOf "_powers" "Book._powers" (defArgs s_Book_powers) (defBody s_Book_powers) (defScope s_Book_powers) .none kV_Book_powers dc_Book_powers pm_Book_powers an_Book_powers cd_Book_powers ct_Book_powers), sl_Book_powers⟩)
    (d_Book_powers : PySem.W.codeIn K cd_Book_powers "Book._powers" = true)
    (k_Book_powers : PySem.W.keepIn K (.ref f_Book_powers) = true)
    (a_Book_weight : PySem.W.findIn K (.ref c_Book) "weight" = some (some (.ref f_Book_weight)))
    (i_Book_weight : PySem.W.isFn K (.ref f_Book_weight) = true)
    (l_Book_weight : K.lookup f_Book_weight = some ⟨oc_Book_weight, od_Book_weight, .func (PySem.W.fnOf "weight" "Book.weight" (defArgs s_Book_weight) (defBody s_Book_weight) (defScope s_Book_weight) .none kV_Book_weight dc_Book_weight pm_Book_weight an_Book_weight cd_Book_weight ct_Book_weight), sl_Book_weight⟩)
    (d_Book_weight : PySem.W.codeIn K cd_Book_weight "Book.weight" = true)
    (k_Book_weight : PySem.W.keepIn K (.ref f_Book_weight) = true)
    (a_Book_limit : PySem.W.findIn K (.ref c_Book) "limit" = some (some (.ref f_Book_limit)))
    (i_Book_limit : PySem.W.isFn K (.ref f_Book_limit) = true)
    (l_Book_limit : K.lookup f_Book_limit = some ⟨oc_Book_limit, od_Book_limit, .func (PySem.W.fnOf "limit" "Book.limit" (defArgs s_Book_limit) (defBody s_Book_limit) (defScope s_Book_limit) .none kV_Book_limit dc_Book_limit pm_Book_limit an_Book_limit cd_Book_limit ct_Book_limit), sl_Book_limit⟩)
    (d_Book_limit : PySem.W.codeIn K cd_Book_limit "Book.limit" = true)
    (k_Book_limit : PySem.W.keepIn K (.ref f_Book_limit) = true)
    (a__law_pool : PySem.W.nsIn K mainGlobals "_law_pool" = some (some (.ref f__law_pool)))
    (l__law_pool : K.lookup f__law_pool = some ⟨oc__law_pool, od__law_pool, .func (PySem.W.fnOf "_law_pool" "_law_pool" (defArgs s__law_pool) (defBody s__law_pool) (defScope s__law_pool) .none kV__law_pool dc__law_pool pm__law_pool an__law_pool cd__law_pool ct__law_pool), sl__law_pool⟩)
    (d__law_pool : PySem.W.codeIn K cd__law_pool "_law_pool" = true)
    (k__law_pool : PySem.W.keepIn K (.ref f__law_pool) = true)
    (a__law_pick : PySem.W.nsIn K mainGlobals "_law_pick" = some (some (.ref f__law_pick)))
    (l__law_pick : K.lookup f__law_pick = some ⟨oc__law_pick, od__law_pick, .func (PySem.W.fnOf "_law_pick" "_law_pick" (defArgs s__law_pick) (defBody s__law_pick) (defScope s__law_pick) .none kV__law_pick dc__law_pick pm__law_pick an__law_pick cd__law_pick ct__law_pick), sl__law_pick⟩)
    (d__law_pick : PySem.W.codeIn K cd__law_pick "_law_pick" = true)
    (k__law_pick : PySem.W.keepIn K (.ref f__law_pick) = true)
    (a__law_alphabet : PySem.W.nsIn K mainGlobals "_law_alphabet" = some (some (.ref f__law_alphabet)))
    (l__law_alphabet : K.lookup f__law_alphabet = some ⟨oc__law_alphabet, od__law_alphabet, .func (PySem.W.fnOf "_law_alphabet" "_law_alphabet" (defArgs s__law_alphabet) (defBody s__law_alphabet) (defScope s__law_alphabet) .none kV__law_alphabet dc__law_alphabet pm__law_alphabet an__law_alphabet cd__law_alphabet ct__law_alphabet), sl__law_alphabet⟩)
    (d__law_alphabet : PySem.W.codeIn K cd__law_alphabet "_law_alphabet" = true)
    (k__law_alphabet : PySem.W.keepIn K (.ref f__law_alphabet) = true)
    (a__law_word_of : PySem.W.nsIn K mainGlobals "_law_word_of" = some (some (.ref f__law_word_of)))
    (l__law_word_of : K.lookup f__law_word_of = some ⟨oc__law_word_of, od__law_word_of, .func (PySem.W.fnOf "_law_word_of" "_law_word_of" (defArgs s__law_word_of) (defBody s__law_word_of) (defScope s__law_word_of) .none kV__law_word_of dc__law_word_of pm__law_word_of an__law_word_of cd__law_word_of ct__law_word_of), sl__law_word_of⟩)
    (d__law_word_of : PySem.W.codeIn K cd__law_word_of "_law_word_of" = true)
    (k__law_word_of : PySem.W.keepIn K (.ref f__law_word_of) = true)
    (a__law_book_of : PySem.W.nsIn K mainGlobals "_law_book_of" = some (some (.ref f__law_book_of)))
    (l__law_book_of : K.lookup f__law_book_of = some ⟨oc__law_book_of, od__law_book_of, .func (PySem.W.fnOf "_law_book_of" "_law_book_of" (defArgs s__law_book_of) (defBody s__law_book_of) (defScope s__law_book_of) .none kV__law_book_of dc__law_book_of pm__law_book_of an__law_book_of cd__law_book_of ct__law_book_of), sl__law_book_of⟩)
    (d__law_book_of : PySem.W.codeIn K cd__law_book_of "_law_book_of" = true)
    (k__law_book_of : PySem.W.keepIn K (.ref f__law_book_of) = true)
    (a__law_is_int : PySem.W.nsIn K mainGlobals "_law_is_int" = some (some (.ref f__law_is_int)))
    (l__law_is_int : K.lookup f__law_is_int = some ⟨oc__law_is_int, od__law_is_int, .func (PySem.W.fnOf "_law_is_int" "_law_is_int" (defArgs s__law_is_int) (defBody s__law_is_int) (defScope s__law_is_int) .none kV__law_is_int dc__law_is_int pm__law_is_int an__law_is_int cd__law_is_int ct__law_is_int), sl__law_is_int⟩)
    (d__law_is_int : PySem.W.codeIn K cd__law_is_int "_law_is_int" = true)
    (k__law_is_int : PySem.W.keepIn K (.ref f__law_is_int) = true)
    (a__law_take : PySem.W.nsIn K mainGlobals "_law_take" = some (some (.ref f__law_take)))
    (l__law_take : K.lookup f__law_take = some ⟨oc__law_take, od__law_take, .func (PySem.W.fnOf "_law_take" "_law_take" (defArgs s__law_take) (defBody s__law_take) (defScope s__law_take) .none kV__law_take dc__law_take pm__law_take an__law_take cd__law_take ct__law_take), sl__law_take⟩)
    (d__law_take : PySem.W.codeIn K cd__law_take "_law_take" = true)
    (k__law_take : PySem.W.keepIn K (.ref f__law_take) = true)
    (a__law_lines_of : PySem.W.nsIn K mainGlobals "_law_lines_of" = some (some (.ref f__law_lines_of)))
    (l__law_lines_of : K.lookup f__law_lines_of = some ⟨oc__law_lines_of, od__law_lines_of, .func (PySem.W.fnOf "_law_lines_of" "_law_lines_of" (defArgs s__law_lines_of) (defBody s__law_lines_of) (defScope s__law_lines_of) .none kV__law_lines_of dc__law_lines_of pm__law_lines_of an__law_lines_of cd__law_lines_of ct__law_lines_of), sl__law_lines_of⟩)
    (d__law_lines_of : PySem.W.codeIn K cd__law_lines_of "_law_lines_of" = true)
    (k__law_lines_of : PySem.W.keepIn K (.ref f__law_lines_of) = true)
    (a__law_as_row : PySem.W.nsIn K mainGlobals "_law_as_row" = some (some (.ref f__law_as_row)))
    (l__law_as_row : K.lookup f__law_as_row = some ⟨oc__law_as_row, od__law_as_row, .func (PySem.W.fnOf "_law_as_row" "_law_as_row" (defArgs s__law_as_row) (defBody s__law_as_row) (defScope s__law_as_row) .none kV__law_as_row dc__law_as_row pm__law_as_row an__law_as_row cd__law_as_row ct__law_as_row), sl__law_as_row⟩)
    (d__law_as_row : PySem.W.codeIn K cd__law_as_row "_law_as_row" = true)
    (k__law_as_row : PySem.W.keepIn K (.ref f__law_as_row) = true)
    (a__law_power : PySem.W.nsIn K mainGlobals "_law_power" = some (some (.ref f__law_power)))
    (l__law_power : K.lookup f__law_power = some ⟨oc__law_power, od__law_power, .func (PySem.W.fnOf "_law_power" "_law_power" (defArgs s__law_power) (defBody s__law_power) (defScope s__law_power) .none kV__law_power dc__law_power pm__law_power an__law_power cd__law_power ct__law_power), sl__law_power⟩)
    (d__law_power : PySem.W.codeIn K cd__law_power "_law_power" = true)
    (k__law_power : PySem.W.keepIn K (.ref f__law_power) = true)
    (a__law_due_of : PySem.W.nsIn K mainGlobals "_law_due_of" = some (some (.ref f__law_due_of)))
    (l__law_due_of : K.lookup f__law_due_of = some ⟨oc__law_due_of, od__law_due_of, .func (PySem.W.fnOf "_law_due_of" "_law_due_of" (defArgs s__law_due_of) (defBody s__law_due_of) (defScope s__law_due_of) .none kV__law_due_of dc__law_due_of pm__law_due_of an__law_due_of cd__law_due_of ct__law_due_of), sl__law_due_of⟩)
    (d__law_due_of : PySem.W.codeIn K cd__law_due_of "_law_due_of" = true)
    (k__law_due_of : PySem.W.keepIn K (.ref f__law_due_of) = true)
    (a__law_weighed : PySem.W.nsIn K mainGlobals "_law_weighed" = some (some (.ref f__law_weighed)))
    (l__law_weighed : K.lookup f__law_weighed = some ⟨oc__law_weighed, od__law_weighed, .func (PySem.W.fnOf "_law_weighed" "_law_weighed" (defArgs s__law_weighed) (defBody s__law_weighed) (defScope s__law_weighed) .none kV__law_weighed dc__law_weighed pm__law_weighed an__law_weighed cd__law_weighed ct__law_weighed), sl__law_weighed⟩)
    (d__law_weighed : PySem.W.codeIn K cd__law_weighed "_law_weighed" = true)
    (k__law_weighed : PySem.W.keepIn K (.ref f__law_weighed) = true)
    (a__law_limited : PySem.W.nsIn K mainGlobals "_law_limited" = some (some (.ref f__law_limited)))
    (l__law_limited : K.lookup f__law_limited = some ⟨oc__law_limited, od__law_limited, .func (PySem.W.fnOf "_law_limited" "_law_limited" (defArgs s__law_limited) (defBody s__law_limited) (defScope s__law_limited) .none kV__law_limited dc__law_limited pm__law_limited an__law_limited cd__law_limited ct__law_limited), sl__law_limited⟩)
    (d__law_limited : PySem.W.codeIn K cd__law_limited "_law_limited" = true)
    (k__law_limited : PySem.W.keepIn K (.ref f__law_limited) = true)
    (a_law : PySem.W.nsIn K mainGlobals "law" = some (some (.ref f_law)))
    (l_law : K.lookup f_law = some ⟨oc_law, od_law, .func (PySem.W.fnOf "law" "law" (defArgs s_law) (defBody s_law) (defScope s_law) .none kV_law dc_law pm_law an_law cd_law ct_law), sl_law⟩)
    (d_law : PySem.W.codeIn K cd_law "law" = true)
    (k_law : PySem.W.keepIn K (.ref f_law) = true)
    : ∃ fd : FuncData, (∀ (s : Shared) (u : Value), BindsTo s fd ⟨[u], []⟩ [("_law_script", u)]) ∧ ∀ base : Heap, K.In base → base.Ns mainGlobals mg → FnOk prg w K mg base (L2.CX prg w) 14 fa fd ["_law_script"] (spLaw K) := by
  have e := hfa.symm.trans (PySem.W.mg_of X G a_law)
  have e2 : f_law = fa := by cases e; rfl
  subst e2
  let T : Txt K mg := {
    n_abs := PySem.W.mg_none_of X G z_abs
    n_bool := PySem.W.mg_none_of X G z_bool
    n_bytes := PySem.W.mg_none_of X G z_bytes
    n_classmethod := PySem.W.mg_none_of X G z_classmethod
    n_enumerate := PySem.W.mg_none_of X G z_enumerate
    n_int := PySem.W.mg_none_of X G z_int
    n_isinstance := PySem.W.mg_none_of X G z_isinstance
    n_iter := PySem.W.mg_none_of X G z_iter
    n_len := PySem.W.mg_none_of X G z_len
    n_list := PySem.W.mg_none_of X G z_list
    n_max := PySem.W.mg_none_of X G z_max
    n_min := PySem.W.mg_none_of X G z_min
    n_property := PySem.W.mg_none_of X G z_property
    n_range := PySem.W.mg_none_of X G z_range
    n_str := PySem.W.mg_none_of X G z_str
    n_sum := PySem.W.mg_none_of X G z_sum
    n_tuple := PySem.W.mg_none_of X G z_tuple
    n_zip := PySem.W.mg_none_of X G z_zip
    k_SIGNS := ⟨_, PySem.W.mg_of X G a_SIGNS⟩
    k_GREATEST_HEIGHT := ⟨_, PySem.W.mg_of X G a_GREATEST_HEIGHT⟩
    k_MOST_SIGNS := ⟨_, PySem.W.mg_of X G a_MOST_SIGNS⟩
    k_MOST_RULES := ⟨_, PySem.W.mg_of X G a_MOST_RULES⟩
    c_BadSign := c_BadSign
    m_BadSign := PySem.W.mg_of X G a_BadSign
    o_BadSign := ⟨⟨nm_BadSign, q_BadSign, N_BadSign, bs_BadSign, bm_BadSign, sn_BadSign, sub_BadSign, ab_BadSign, col_BadSign, dd_BadSign, k0_BadSign, k1_BadSign, k2_BadSign, k3_BadSign, k5_BadSign, l_BadSign, ve_BadSign⟩, sa_BadSign, eb_BadSign, ty_BadSign, kc_BadSign⟩
    x_BadSign := ⟨⟨ga_BadSign, gg_BadSign, eb_BadSign, hd_BadSign⟩, nf_BadSign⟩
    f_BadSign_init := f_BadSign_init
    fd_BadSign_init := _
    i_BadSign := i_BadSign_init
    t_BadSign := t_BadSign_init
    F_BadSign_init := ⟨⟨_, _, _, _, _, _, _, _, _, _, _, _, _, _, _, _, _, _, _, _, rfl, l_BadSign_init, d_BadSign_init, e_BadSign_init, v_BadSign_init, g_BadSign_init, h_BadSign_init⟩, ops, PySem.W.mg_none_of X G z_super, si_BadSign, ev_BadSign, mc_BadSign, nf_BadSign, by rfl⟩
    b_BadSign_init := .all fun us hl => match us, hl with | [_, _], _ => rfl
    em_BadSign_BadSign := em_BadSign_BadSign
    c_BadHeight := c_BadHeight
    m_BadHeight := PySem.W.mg_of X G a_BadHeight
    o_BadHeight := ⟨⟨nm_BadHeight, q_BadHeight, N_BadHeight, bs_BadHeight, bm_BadHeight, sn_BadHeight, sub_BadHeight, ab_BadHeight, col_BadHeight, dd_BadHeight, k0_BadHeight, k1_BadHeight, k2_BadHeight, k3_BadHeight, k5_BadHeight, l_BadHeight, ve_BadHeight⟩, sa_BadHeight, eb_BadHeight, ty_BadHeight, kc_BadHeight⟩
    x_BadHeight := ⟨⟨ga_BadHeight, gg_BadHeight, eb_BadHeight, hd_BadHeight⟩, nf_BadHeight⟩
    f_BadHeight_init := f_BadHeight_init
    fd_BadHeight_init := _
    i_BadHeight := i_BadHeight_init
    t_BadHeight := t_BadHeight_init
    F_BadHeight_init := ⟨⟨_, _, _, _, _, _, _, _, _, _, _, _, _, _, _, _, _, _, _, _, rfl, l_BadHeight_init, d_BadHeight_init, e_BadHeight_init, v_BadHeight_init, g_BadHeight_init, h_BadHeight_init⟩, ops, PySem.W.mg_none_of X G z_super, si_BadHeight, ev_BadHeight, mc_BadHeight, nf_BadHeight, by rfl⟩
    b_BadHeight_init := .all fun us hl => match us, hl with | [_, _], _ => rfl
    em_BadHeight_BadSign := em_BadHeight_BadSign
    em_BadHeight_BadHeight := em_BadHeight_BadHeight
    c_BadLine := c_BadLine
    m_BadLine := PySem.W.mg_of X G a_BadLine
    o_BadLine := ⟨⟨nm_BadLine, q_BadLine, N_BadLine, bs_BadLine, bm_BadLine, sn_BadLine, sub_BadLine, ab_BadLine, col_BadLine, dd_BadLine, k0_BadLine, k1_BadLine, k2_BadLine, k3_BadLine, k5_BadLine, l_BadLine, ve_BadLine⟩, sa_BadLine, eb_BadLine, ty_BadLine, kc_BadLine⟩
    x_BadLine := ⟨⟨ga_BadLine, gg_BadLine, eb_BadLine, hd_BadLine⟩, nf_BadLine⟩
    f_BadLine_init := f_BadLine_init
    fd_BadLine_init := _
    i_BadLine := i_BadLine_init
    t_BadLine := t_BadLine_init
    F_BadLine_init := ⟨⟨_, _, _, _, _, _, _, _, _, _, _, _, _, _, _, _, _, _, _, _, rfl, l_BadLine_init, d_BadLine_init, e_BadLine_init, v_BadLine_init, g_BadLine_init, h_BadLine_init⟩, ops, PySem.W.mg_none_of X G z_super, si_BadLine, ev_BadLine, mc_BadLine, nf_BadLine, by rfl⟩
    b_BadLine_init := .all fun us hl => match us, hl with | [_, _], _ => rfl
    em_BadLine_BadSign := em_BadLine_BadSign
    em_BadLine_BadHeight := em_BadLine_BadHeight
    em_BadLine_BadLine := em_BadLine_BadLine
    c_BadBound := c_BadBound
    m_BadBound := PySem.W.mg_of X G a_BadBound
    o_BadBound := ⟨⟨nm_BadBound, q_BadBound, N_BadBound, bs_BadBound, bm_BadBound, sn_BadBound, sub_BadBound, ab_BadBound, col_BadBound, dd_BadBound, k0_BadBound, k1_BadBound, k2_BadBound, k3_BadBound, k5_BadBound, l_BadBound, ve_BadBound⟩, sa_BadBound, eb_BadBound, ty_BadBound, kc_BadBound⟩
    x_BadBound := ⟨⟨ga_BadBound, gg_BadBound, eb_BadBound, hd_BadBound⟩, nf_BadBound⟩
    f_BadBound_init := f_BadBound_init
    fd_BadBound_init := _
    i_BadBound := i_BadBound_init
    t_BadBound := t_BadBound_init
    F_BadBound_init := ⟨⟨_, _, _, _, _, _, _, _, _, _, _, _, _, _, _, _, _, _, _, _, rfl, l_BadBound_init, d_BadBound_init, e_BadBound_init, v_BadBound_init, g_BadBound_init, h_BadBound_init⟩, ops, PySem.W.mg_none_of X G z_super, si_BadBound, ev_BadBound, mc_BadBound, nf_BadBound, by rfl⟩
    b_BadBound_init := .all fun us hl => match us, hl with | [_, _], _ => rfl
    em_BadBound_BadSign := em_BadBound_BadSign
    em_BadBound_BadHeight := em_BadBound_BadHeight
    em_BadBound_BadLine := em_BadBound_BadLine
    em_BadBound_BadBound := em_BadBound_BadBound
    c_Uneven := c_Uneven
    m_Uneven := PySem.W.mg_of X G a_Uneven
    o_Uneven := o_Uneven
    kp_Uneven := kp_Uneven
    r_Uneven := r_Uneven
    t_Uneven := t_Uneven
    em_Uneven_BadSign := em_Uneven_BadSign
    em_Uneven_BadHeight := em_Uneven_BadHeight
    em_Uneven_BadLine := em_Uneven_BadLine
    em_Uneven_BadBound := em_Uneven_BadBound
    em_Uneven_Uneven := em_Uneven_Uneven
    c_BadRule := c_BadRule
    m_BadRule := PySem.W.mg_of X G a_BadRule
    o_BadRule := o_BadRule
    kp_BadRule := kp_BadRule
    r_BadRule := r_BadRule
    t_BadRule := t_BadRule
    em_BadRule_BadSign := em_BadRule_BadSign
    em_BadRule_BadHeight := em_BadRule_BadHeight
    em_BadRule_BadLine := em_BadRule_BadLine
    em_BadRule_BadBound := em_BadRule_BadBound
    em_BadRule_Uneven := em_BadRule_Uneven
    em_BadRule_BadRule := em_BadRule_BadRule
    c_BookFull := c_BookFull
    m_BookFull := PySem.W.mg_of X G a_BookFull
    o_BookFull := o_BookFull
    kp_BookFull := kp_BookFull
    r_BookFull := r_BookFull
    t_BookFull := t_BookFull
    em_BookFull_BadSign := em_BookFull_BadSign
    em_BookFull_BadHeight := em_BookFull_BadHeight
    em_BookFull_BadLine := em_BookFull_BadLine
    em_BookFull_BadBound := em_BookFull_BadBound
    em_BookFull_Uneven := em_BookFull_Uneven
    em_BookFull_BadRule := em_BookFull_BadRule
    em_BookFull_BookFull := em_BookFull_BookFull
    em_BadSign_BadHeight := em_BadSign_BadHeight
    em_BadSign_BadLine := em_BadSign_BadLine
    em_BadSign_BadBound := em_BadSign_BadBound
    em_BadSign_Uneven := em_BadSign_Uneven
    em_BadSign_BadRule := em_BadSign_BadRule
    em_BadSign_BookFull := em_BadSign_BookFull
    em_BadHeight_BadLine := em_BadHeight_BadLine
    em_BadHeight_BadBound := em_BadHeight_BadBound
    em_BadHeight_Uneven := em_BadHeight_Uneven
    em_BadHeight_BadRule := em_BadHeight_BadRule
    em_BadHeight_BookFull := em_BadHeight_BookFull
    em_BadLine_BadBound := em_BadLine_BadBound
    em_BadLine_Uneven := em_BadLine_Uneven
    em_BadLine_BadRule := em_BadLine_BadRule
    em_BadLine_BookFull := em_BadLine_BookFull
    em_BadBound_Uneven := em_BadBound_Uneven
    em_BadBound_BadRule := em_BadBound_BadRule
    em_BadBound_BookFull := em_BadBound_BookFull
    em_Uneven_BadRule := em_Uneven_BadRule
    em_Uneven_BookFull := em_Uneven_BookFull
    em_BadRule_BookFull := em_BadRule_BookFull
    c_Row := c_Row
    m_Row := PySem.W.mg_of X G a_Row
    cl_Row := ⟨pg_Row, hd_Row, po_Row, sa_Row⟩
    mk_Row := mk_Row
    kp_Row := kc_Row
    is_Row := ⟨⟨pg_Row, hd_Row, po_Row, sa_Row⟩, j0_Row, j1_Row, j2_Row, j3_Row, j4_Row⟩
    sf_Row := sf_Row
    nsq_Row := nsq_Row
    na_Row__pairs := na_Row__pairs
    c_Rule := c_Rule
    m_Rule := PySem.W.mg_of X G a_Rule
    cl_Rule := ⟨pg_Rule, hd_Rule, po_Rule, sa_Rule⟩
    mk_Rule := mk_Rule
    kp_Rule := kc_Rule
    is_Rule := ⟨⟨pg_Rule, hd_Rule, po_Rule, sa_Rule⟩, j0_Rule, j1_Rule, j2_Rule, j3_Rule, j4_Rule⟩
    sf_Rule := sf_Rule
    na_Rule_left := na_Rule_left
    na_Rule_right := na_Rule_right
    c_Book := c_Book
    m_Book := PySem.W.mg_of X G a_Book
    cl_Book := ⟨pg_Book, hd_Book, po_Book, sa_Book⟩
    mk_Book := mk_Book
    kp_Book := kc_Book
    is_Book := ⟨⟨pg_Book, hd_Book, po_Book, sa_Book⟩, j0_Book, j1_Book, j2_Book, j3_Book, j4_Book⟩
    sf_Book := sf_Book
    na_Book__rules := na_Book__rules
    f_check_text := f_check_text
    fd_check_text := PySem.W.fnOf "check_text" "check_text" (defArgs s_check_text) (defBody s_check_text) (defScope s_check_text) .none kV_check_text dc_check_text pm_check_text an_check_text cd_check_text ct_check_text
    F_check_text := fun_mk (st := s_check_text) l_check_text d_check_text k_check_text
    b_check_text := (fun_mk (st := s_check_text) l_check_text d_check_text k_check_text).binds (ps := P_check_text) fun _ _ _ _ _ _ us hl => match us, hl with | [_], _ => rfl
    m_check_text := PySem.W.mg_of X G a_check_text
    f_decoded := f_decoded
    fd_decoded := PySem.W.fnOf "decoded" "decoded" (defArgs s_decoded) (defBody s_decoded) (defScope s_decoded) .none kV_decoded dc_decoded pm_decoded an_decoded cd_decoded ct_decoded
    F_decoded := fun_mk (st := s_decoded) l_decoded d_decoded k_decoded
    b_decoded := (fun_mk (st := s_decoded) l_decoded d_decoded k_decoded).binds (ps := P_decoded) fun _ _ _ _ _ _ us hl => match us, hl with | [_], _ => rfl
    m_decoded := PySem.W.mg_of X G a_decoded
    f_check_height := f_check_height
    fd_check_height := PySem.W.fnOf "check_height" "check_height" (defArgs s_check_height) (defBody s_check_height) (defScope s_check_height) .none kV_check_height dc_check_height pm_check_height an_check_height cd_check_height ct_check_height
    F_check_height := fun_mk (st := s_check_height) l_check_height d_check_height k_check_height
    b_check_height := (fun_mk (st := s_check_height) l_check_height d_check_height k_check_height).binds (ps := P_check_height) fun _ _ _ _ _ _ us hl => match us, hl with | [_, _], _ => rfl
    m_check_height := PySem.W.mg_of X G a_check_height
    f_check_bound := f_check_bound
    fd_check_bound := PySem.W.fnOf "check_bound" "check_bound" (defArgs s_check_bound) (defBody s_check_bound) (defScope s_check_bound) .none kV_check_bound dc_check_bound pm_check_bound an_check_bound cd_check_bound ct_check_bound
    F_check_bound := fun_mk (st := s_check_bound) l_check_bound d_check_bound k_check_bound
    b_check_bound := (fun_mk (st := s_check_bound) l_check_bound d_check_bound k_check_bound).binds (ps := P_check_bound) fun _ _ _ _ _ _ us hl => match us, hl with | [_, _], _ => rfl
    m_check_bound := PySem.W.mg_of X G a_check_bound
    f_Row_init := f_Row_init
    fd_Row_init := PySem.W.fnOf "__init__" "Row.__init__" (defArgs s_Row_init) (defBody s_Row_init) (defScope s_Row_init) (.ref dT_Row_init) kV_Row_init dc_Row_init pm_Row_init an_Row_init cd_Row_init ct_Row_init
    D_Row_init := ⟨⟨_, _, _, _, _, _, _, _, _, _, rfl, l_Row_init, d_Row_init, .inr ⟨by simp, dT_Row_init, _, _, un_Row_init, rfl, u_Row_init, rfl, .cons ⟨_, rfl⟩ (.cons rfl (.nil))⟩, .inl rfl⟩, k_Row_init⟩
    kp_Row_init := k_Row_init
    M_Row_init := ⟨a_Row_init, i_Row_init, k_Row_init⟩
    f_Row_signs := f_Row_signs
    fd_Row_signs := PySem.W.fnOf "signs" "Row.signs" (defArgs s_Row_signs) (defBody s_Row_signs) (defScope s_Row_signs) .none kV_Row_signs dc_Row_signs pm_Row_signs an_Row_signs cd_Row_signs ct_Row_signs
    F_Row_signs := fun_mk (st := s_Row_signs) l_Row_signs d_Row_signs k_Row_signs
    b_Row_signs := (fun_mk (st := s_Row_signs) l_Row_signs d_Row_signs k_Row_signs).binds (ps := P_Row_signs) fun _ _ _ _ _ _ us hl => match us, hl with | [_], _ => rfl
    p_Row_signs := p_Row_signs
    M_Row_signs := ⟨a_Row_signs, pg_Row_signs, pt_Row_signs, ⟨_, pr_Row_signs⟩⟩
    f_Row_heights := f_Row_heights
    fd_Row_heights := PySem.W.fnOf "heights" "Row.heights" (defArgs s_Row_heights) (defBody s_Row_heights) (defScope s_Row_heights) .none kV_Row_heights dc_Row_heights pm_Row_heights an_Row_heights cd_Row_heights ct_Row_heights
    F_Row_heights := fun_mk (st := s_Row_heights) l_Row_heights d_Row_heights k_Row_heights
    b_Row_heights := (fun_mk (st := s_Row_heights) l_Row_heights d_Row_heights k_Row_heights).binds (ps := P_Row_heights) fun _ _ _ _ _ _ us hl => match us, hl with | [_], _ => rfl
    p_Row_heights := p_Row_heights
    M_Row_heights := ⟨a_Row_heights, pg_Row_heights, pt_Row_heights, ⟨_, pr_Row_heights⟩⟩
    f_Row_len := f_Row_len
    fd_Row_len := PySem.W.fnOf "__len__" "Row.__len__" (defArgs s_Row_len) (defBody s_Row_len) (defScope s_Row_len) .none kV_Row_len dc_Row_len pm_Row_len an_Row_len cd_Row_len ct_Row_len
    F_Row_len := fun_mk (st := s_Row_len) l_Row_len d_Row_len k_Row_len
    b_Row_len := (fun_mk (st := s_Row_len) l_Row_len d_Row_len k_Row_len).binds (ps := P_Row_len) fun _ _ _ _ _ _ us hl => match us, hl with | [_], _ => rfl
    M_Row_len := ⟨a_Row_len, i_Row_len, k_Row_len⟩
    f_Row_iter := f_Row_iter
    fd_Row_iter := PySem.W.fnOf "__iter__" "Row.__iter__" (defArgs s_Row_iter) (defBody s_Row_iter) (defScope s_Row_iter) .none kV_Row_iter dc_Row_iter pm_Row_iter an_Row_iter cd_Row_iter ct_Row_iter
    F_Row_iter := fun_mk (st := s_Row_iter) l_Row_iter d_Row_iter k_Row_iter
    b_Row_iter := (fun_mk (st := s_Row_iter) l_Row_iter d_Row_iter k_Row_iter).binds (ps := P_Row_iter) fun _ _ _ _ _ _ us hl => match us, hl with | [_], _ => rfl
    M_Row_iter := ⟨a_Row_iter, i_Row_iter, k_Row_iter⟩
    f_Row_abs := f_Row_abs
    fd_Row_abs := PySem.W.fnOf "__abs__" "Row.__abs__" (defArgs s_Row_abs) (defBody s_Row_abs) (defScope s_Row_abs) .none kV_Row_abs dc_Row_abs pm_Row_abs an_Row_abs cd_Row_abs ct_Row_abs
    F_Row_abs := fun_mk (st := s_Row_abs) l_Row_abs d_Row_abs k_Row_abs
    b_Row_abs := (fun_mk (st := s_Row_abs) l_Row_abs d_Row_abs k_Row_abs).binds (ps := P_Row_abs) fun _ _ _ _ _ _ us hl => match us, hl with | [_], _ => rfl
    M_Row_abs := ⟨a_Row_abs, i_Row_abs, k_Row_abs⟩
    f_Rule_init := f_Rule_init
    fd_Rule_init := PySem.W.fnOf "__init__" "Rule.__init__" (defArgs s_Rule_init) (defBody s_Rule_init) (defScope s_Rule_init) (.ref dT_Rule_init) kV_Rule_init dc_Rule_init pm_Rule_init an_Rule_init cd_Rule_init ct_Rule_init
    D_Rule_init := ⟨⟨_, _, _, _, _, _, _, _, _, _, rfl, l_Rule_init, d_Rule_init, .inr ⟨by simp, dT_Rule_init, _, _, un_Rule_init, rfl, u_Rule_init, rfl, .cons ⟨_, rfl⟩ (.nil)⟩, .inl rfl⟩, k_Rule_init⟩
    kp_Rule_init := k_Rule_init
    M_Rule_init := ⟨a_Rule_init, i_Rule_init, k_Rule_init⟩
    f_Rule_str := f_Rule_str
    fd_Rule_str := PySem.W.fnOf "__str__" "Rule.__str__" (defArgs s_Rule_str) (defBody s_Rule_str) (defScope s_Rule_str) .none kV_Rule_str dc_Rule_str pm_Rule_str an_Rule_str cd_Rule_str ct_Rule_str
    F_Rule_str := fun_mk (st := s_Rule_str) l_Rule_str d_Rule_str k_Rule_str
    b_Rule_str := (fun_mk (st := s_Rule_str) l_Rule_str d_Rule_str k_Rule_str).binds (ps := P_Rule_str) fun _ _ _ _ _ _ us hl => match us, hl with | [_], _ => rfl
    M_Rule_str := ⟨a_Rule_str, i_Rule_str, k_Rule_str⟩
    f__fits := f__fits
    fd__fits := PySem.W.fnOf "_fits" "_fits" (defArgs s__fits) (defBody s__fits) (defScope s__fits) .none kV__fits dc__fits pm__fits an__fits cd__fits ct__fits
    F__fits := fun_mk (st := s__fits) l__fits d__fits k__fits
    b__fits := (fun_mk (st := s__fits) l__fits d__fits k__fits).binds (ps := P__fits) fun _ _ _ _ _ _ us hl => match us, hl with | [_, _, _], _ => rfl
    m__fits := PySem.W.mg_of X G a__fits
    f_Book_init := f_Book_init
    fd_Book_init := PySem.W.fnOf "__init__" "Book.__init__" (defArgs s_Book_init) (defBody s_Book_init) (defScope s_Book_init) .none kV_Book_init dc_Book_init pm_Book_init an_Book_init cd_Book_init ct_Book_init
    F_Book_init := fun_mk (st := s_Book_init) l_Book_init d_Book_init k_Book_init
    M_Book_init := ⟨a_Book_init, i_Book_init, k_Book_init⟩
    f_Book_longest := f_Book_longest
    fd_Book_longest := PySem.W.fnOf "longest" "Book.longest" (defArgs s_Book_longest) (defBody s_Book_longest) (defScope s_Book_longest) .none kV_Book_longest dc_Book_longest pm_Book_longest an_Book_longest cd_Book_longest ct_Book_longest
    F_Book_longest := fun_mk (st := s_Book_longest) l_Book_longest d_Book_longest k_Book_longest
    b_Book_longest := (fun_mk (st := s_Book_longest) l_Book_longest d_Book_longest k_Book_longest).binds (ps := P_Book_longest) fun _ _ _ _ _ _ us hl => match us, hl with | [_], _ => rfl
    p_Book_longest := p_Book_longest
    M_Book_longest := ⟨a_Book_longest, pg_Book_longest, pt_Book_longest, ⟨_, pr_Book_longest⟩⟩
    f_Book_written := f_Book_written
    fd_Book_written := PySem.W.fnOf "written" "Book.written" (defArgs s_Book_written) (defBody s_Book_written) (defScope s_Book_written) .none kV_Book_written dc_Book_written pm_Book_written an_Book_written cd_Book_written ct_Book_written
    F_Book_written := fun_mk (st := s_Book_written) l_Book_written d_Book_written k_Book_written
    b_Book_written := (fun_mk (st := s_Book_written) l_Book_written d_Book_written k_Book_written).binds (ps := P_Book_written) fun _ _ _ _ _ _ us hl => match us, hl with | [_], _ => rfl
    M_Book_written := ⟨a_Book_written, i_Book_written, k_Book_written⟩
    f__read_rule := f__read_rule
    fd__read_rule := PySem.W.fnOf "_read_rule" "_read_rule" (defArgs s__read_rule) (defBody s__read_rule) (defScope s__read_rule) .none kV__read_rule dc__read_rule pm__read_rule an__read_rule cd__read_rule ct__read_rule
    F__read_rule := fun_mk (st := s__read_rule) l__read_rule d__read_rule k__read_rule
    b__read_rule := (fun_mk (st := s__read_rule) l__read_rule d__read_rule k__read_rule).binds (ps := P__read_rule) fun _ _ _ _ _ _ us hl => match us, hl with | [_, _], _ => rfl
    m__read_rule := PySem.W.mg_of X G a__read_rule
    f_Book_read := f_Book_read
    fd_Book_read := PySem.W.fnOf "read" "Book.read" (defArgs s_Book_read) (defBody s_Book_read) (defScope s_Book_read) .none kV_Book_read dc_Book_read pm_Book_read an_Book_read cd_Book_read ct_Book_read
    F_Book_read := fun_mk (st := s_Book_read) l_Book_read d_Book_read k_Book_read
    b_Book_read := (fun_mk (st := s_Book_read) l_Book_read d_Book_read k_Book_read).binds (ps := P_Book_read) fun _ _ _ _ _ _ us hl => match us, hl with | [_, _], _ => rfl
    p_Book_read := p_Book_read
    cr_Book_read := ⟨cr1_Book_read, cr2_Book_read⟩
    M_Book_read := ⟨a_Book_read, ⟨_, pr_Book_read⟩, fi_Book_read⟩
    f_Book_steps := f_Book_steps
    fd_Book_steps := PySem.W.fnOf "steps" "Book.steps" (defArgs s_Book_steps) (defBody s_Book_steps) (defScope s_Book_steps) .none kV_Book_steps dc_Book_steps pm_Book_steps an_Book_steps cd_Book_steps ct_Book_steps
    F_Book_steps := fun_mk (st := s_Book_steps) l_Book_steps d_Book_steps k_Book_steps
    b_Book_steps := (fun_mk (st := s_Book_steps) l_Book_steps d_Book_steps k_Book_steps).binds (ps := P_Book_steps) fun _ _ _ _ _ _ us hl => match us, hl with | [_, _], _ => rfl
    M_Book_steps := ⟨a_Book_steps, i_Book_steps, k_Book_steps⟩
    f_Book_powers := f_Book_powers
    fd_Book_powers := PySem.W.fnOf "_powers" "Book._powers" (defArgs s_Book_powers) (defBody s_Book_powers) (defScope s_Book_powers) .none kV_Book_powers dc_Book_powers pm_Book_powers an_Book_powers cd_Book_powers ct_Book_powers
    F_Book_powers := fun_mk (st := s_Book_powers) l_Book_powers d_Book_powers k_Book_powers
    b_Book_powers := (fun_mk (st := s_Book_powers) l_Book_powers d_Book_powers k_Book_powers).binds (ps := P_Book_powers) fun _ _ _ _ _ _ us hl => match us, hl with | [_], _ => rfl
    M_Book_powers := ⟨a_Book_powers, i_Book_powers, k_Book_powers⟩
    f_Book_weight := f_Book_weight
    fd_Book_weight := PySem.W.fnOf "weight" "Book.weight" (defArgs s_Book_weight) (defBody s_Book_weight) (defScope s_Book_weight) .none kV_Book_weight dc_Book_weight pm_Book_weight an_Book_weight cd_Book_weight ct_Book_weight
    F_Book_weight := fun_mk (st := s_Book_weight) l_Book_weight d_Book_weight k_Book_weight
    M_Book_weight := ⟨a_Book_weight, i_Book_weight, k_Book_weight⟩
    f_Book_limit := f_Book_limit
    fd_Book_limit := PySem.W.fnOf "limit" "Book.limit" (defArgs s_Book_limit) (defBody s_Book_limit) (defScope s_Book_limit) .none kV_Book_limit dc_Book_limit pm_Book_limit an_Book_limit cd_Book_limit ct_Book_limit
    F_Book_limit := fun_mk (st := s_Book_limit) l_Book_limit d_Book_limit k_Book_limit
    M_Book_limit := ⟨a_Book_limit, i_Book_limit, k_Book_limit⟩
    f__law_pool := f__law_pool
    fd__law_pool := PySem.W.fnOf "_law_pool" "_law_pool" (defArgs s__law_pool) (defBody s__law_pool) (defScope s__law_pool) .none kV__law_pool dc__law_pool pm__law_pool an__law_pool cd__law_pool ct__law_pool
    F__law_pool := fun_mk (st := s__law_pool) l__law_pool d__law_pool k__law_pool
    b__law_pool := (fun_mk (st := s__law_pool) l__law_pool d__law_pool k__law_pool).binds (ps := P__law_pool) fun _ _ _ _ _ _ us hl => match us, hl with | [_], _ => rfl
    m__law_pool := PySem.W.mg_of X G a__law_pool
    f__law_pick := f__law_pick
    fd__law_pick := PySem.W.fnOf "_law_pick" "_law_pick" (defArgs s__law_pick) (defBody s__law_pick) (defScope s__law_pick) .none kV__law_pick dc__law_pick pm__law_pick an__law_pick cd__law_pick ct__law_pick
    F__law_pick := fun_mk (st := s__law_pick) l__law_pick d__law_pick k__law_pick
    b__law_pick := (fun_mk (st := s__law_pick) l__law_pick d__law_pick k__law_pick).binds (ps := P__law_pick) fun _ _ _ _ _ _ us hl => match us, hl with | [_, _], _ => rfl
    m__law_pick := PySem.W.mg_of X G a__law_pick
    f__law_alphabet := f__law_alphabet
    fd__law_alphabet := PySem.W.fnOf "_law_alphabet" "_law_alphabet" (defArgs s__law_alphabet) (defBody s__law_alphabet) (defScope s__law_alphabet) .none kV__law_alphabet dc__law_alphabet pm__law_alphabet an__law_alphabet cd__law_alphabet ct__law_alphabet
    F__law_alphabet := fun_mk (st := s__law_alphabet) l__law_alphabet d__law_alphabet k__law_alphabet
    b__law_alphabet := (fun_mk (st := s__law_alphabet) l__law_alphabet d__law_alphabet k__law_alphabet).binds (ps := P__law_alphabet) fun _ _ _ _ _ _ us hl => match us, hl with | [_, _], _ => rfl
    m__law_alphabet := PySem.W.mg_of X G a__law_alphabet
    f__law_word_of := f__law_word_of
    fd__law_word_of := PySem.W.fnOf "_law_word_of" "_law_word_of" (defArgs s__law_word_of) (defBody s__law_word_of) (defScope s__law_word_of) .none kV__law_word_of dc__law_word_of pm__law_word_of an__law_word_of cd__law_word_of ct__law_word_of
    F__law_word_of := fun_mk (st := s__law_word_of) l__law_word_of d__law_word_of k__law_word_of
    b__law_word_of := (fun_mk (st := s__law_word_of) l__law_word_of d__law_word_of k__law_word_of).binds (ps := P__law_word_of) fun _ _ _ _ _ _ us hl => match us, hl with | [_, _, _, _], _ => rfl
    m__law_word_of := PySem.W.mg_of X G a__law_word_of
    f__law_book_of := f__law_book_of
    fd__law_book_of := PySem.W.fnOf "_law_book_of" "_law_book_of" (defArgs s__law_book_of) (defBody s__law_book_of) (defScope s__law_book_of) .none kV__law_book_of dc__law_book_of pm__law_book_of an__law_book_of cd__law_book_of ct__law_book_of
    F__law_book_of := fun_mk (st := s__law_book_of) l__law_book_of d__law_book_of k__law_book_of
    b__law_book_of := (fun_mk (st := s__law_book_of) l__law_book_of d__law_book_of k__law_book_of).binds (ps := P__law_book_of) fun _ _ _ _ _ _ us hl => match us, hl with | [_, _], _ => rfl
    m__law_book_of := PySem.W.mg_of X G a__law_book_of
    f__law_is_int := f__law_is_int
    fd__law_is_int := PySem.W.fnOf "_law_is_int" "_law_is_int" (defArgs s__law_is_int) (defBody s__law_is_int) (defScope s__law_is_int) .none kV__law_is_int dc__law_is_int pm__law_is_int an__law_is_int cd__law_is_int ct__law_is_int
    F__law_is_int := fun_mk (st := s__law_is_int) l__law_is_int d__law_is_int k__law_is_int
    b__law_is_int := (fun_mk (st := s__law_is_int) l__law_is_int d__law_is_int k__law_is_int).binds (ps := P__law_is_int) fun _ _ _ _ _ _ us hl => match us, hl with | [_], _ => rfl
    m__law_is_int := PySem.W.mg_of X G a__law_is_int
    f__law_take := f__law_take
    fd__law_take := PySem.W.fnOf "_law_take" "_law_take" (defArgs s__law_take) (defBody s__law_take) (defScope s__law_take) .none kV__law_take dc__law_take pm__law_take an__law_take cd__law_take ct__law_take
    F__law_take := fun_mk (st := s__law_take) l__law_take d__law_take k__law_take
    b__law_take := (fun_mk (st := s__law_take) l__law_take d__law_take k__law_take).binds (ps := P__law_take) fun _ _ _ _ _ _ us hl => match us, hl with | [_, _, _], _ => rfl
    m__law_take := PySem.W.mg_of X G a__law_take
    f__law_lines_of := f__law_lines_of
    fd__law_lines_of := PySem.W.fnOf "_law_lines_of" "_law_lines_of" (defArgs s__law_lines_of) (defBody s__law_lines_of) (defScope s__law_lines_of) .none kV__law_lines_of dc__law_lines_of pm__law_lines_of an__law_lines_of cd__law_lines_of ct__law_lines_of
    F__law_lines_of := fun_mk (st := s__law_lines_of) l__law_lines_of d__law_lines_of k__law_lines_of
    b__law_lines_of := (fun_mk (st := s__law_lines_of) l__law_lines_of d__law_lines_of k__law_lines_of).binds (ps := P__law_lines_of) fun _ _ _ _ _ _ us hl => match us, hl with | [_], _ => rfl
    m__law_lines_of := PySem.W.mg_of X G a__law_lines_of
    f__law_as_row := f__law_as_row
    fd__law_as_row := PySem.W.fnOf "_law_as_row" "_law_as_row" (defArgs s__law_as_row) (defBody s__law_as_row) (defScope s__law_as_row) .none kV__law_as_row dc__law_as_row pm__law_as_row an__law_as_row cd__law_as_row ct__law_as_row
    F__law_as_row := fun_mk (st := s__law_as_row) l__law_as_row d__law_as_row k__law_as_row
    b__law_as_row := (fun_mk (st := s__law_as_row) l__law_as_row d__law_as_row k__law_as_row).binds (ps := P__law_as_row) fun _ _ _ _ _ _ us hl => match us, hl with | [_], _ => rfl
    m__law_as_row := PySem.W.mg_of X G a__law_as_row
    f__law_power := f__law_power
    fd__law_power := PySem.W.fnOf "_law_power" "_law_power" (defArgs s__law_power) (defBody s__law_power) (defScope s__law_power) .none kV__law_power dc__law_power pm__law_power an__law_power cd__law_power ct__law_power
    F__law_power := fun_mk (st := s__law_power) l__law_power d__law_power k__law_power
    b__law_power := (fun_mk (st := s__law_power) l__law_power d__law_power k__law_power).binds (ps := P__law_power) fun _ _ _ _ _ _ us hl => match us, hl with | [_, _], _ => rfl
    m__law_power := PySem.W.mg_of X G a__law_power
    f__law_due_of := f__law_due_of
    fd__law_due_of := PySem.W.fnOf "_law_due_of" "_law_due_of" (defArgs s__law_due_of) (defBody s__law_due_of) (defScope s__law_due_of) .none kV__law_due_of dc__law_due_of pm__law_due_of an__law_due_of cd__law_due_of ct__law_due_of
    F__law_due_of := fun_mk (st := s__law_due_of) l__law_due_of d__law_due_of k__law_due_of
    b__law_due_of := (fun_mk (st := s__law_due_of) l__law_due_of d__law_due_of k__law_due_of).binds (ps := P__law_due_of) fun _ _ _ _ _ _ us hl => match us, hl with | [_, _, _], _ => rfl
    m__law_due_of := PySem.W.mg_of X G a__law_due_of
    f__law_weighed := f__law_weighed
    fd__law_weighed := PySem.W.fnOf "_law_weighed" "_law_weighed" (defArgs s__law_weighed) (defBody s__law_weighed) (defScope s__law_weighed) .none kV__law_weighed dc__law_weighed pm__law_weighed an__law_weighed cd__law_weighed ct__law_weighed
    F__law_weighed := fun_mk (st := s__law_weighed) l__law_weighed d__law_weighed k__law_weighed
    b__law_weighed := (fun_mk (st := s__law_weighed) l__law_weighed d__law_weighed k__law_weighed).binds (ps := P__law_weighed) fun _ _ _ _ _ _ us hl => match us, hl with | [_, _, _], _ => rfl
    m__law_weighed := PySem.W.mg_of X G a__law_weighed
    f__law_limited := f__law_limited
    fd__law_limited := PySem.W.fnOf "_law_limited" "_law_limited" (defArgs s__law_limited) (defBody s__law_limited) (defScope s__law_limited) .none kV__law_limited dc__law_limited pm__law_limited an__law_limited cd__law_limited ct__law_limited
    F__law_limited := fun_mk (st := s__law_limited) l__law_limited d__law_limited k__law_limited
    b__law_limited := (fun_mk (st := s__law_limited) l__law_limited d__law_limited k__law_limited).binds (ps := P__law_limited) fun _ _ _ _ _ _ us hl => match us, hl with | [_, _, _], _ => rfl
    m__law_limited := PySem.W.mg_of X G a__law_limited
    f_law := f_law
    fd_law := PySem.W.fnOf "law" "law" (defArgs s_law) (defBody s_law) (defScope s_law) .none kV_law dc_law pm_law an_law cd_law ct_law
    F_law := fun_mk (st := s_law) l_law d_law k_law
    b_law := (fun_mk (st := s_law) l_law d_law k_law).binds (ps := P_law) fun _ _ _ _ _ _ us hl => match us, hl with | [_], _ => rfl
    m_law := PySem.W.mg_of X G a_law
  }
  exact ⟨T.fd_law, fun s v => .of_eq rfl, fun base _ _ => ok_law T⟩
theorem walk {l : PySem.W.OpenLaw} {q : Program} {loose : List Str} {XP : (Str → Option Value) → Heap → Prop} {YP : World → Heap → Prop} {d : DefRec} {K : Params → PySem.W.Frag} (hn : l.most = some 63) (hdf : d.params.defaults = []) (hp : l.prog = prg)
    (hY : ∀ (w : World) (h : Heap), YP w h → (K w.params).In h)
    (F : ∀ (w : World) (mg : Str → Option Value) (fa : Addr) (h : Heap), (K w.params).In h → h.Ns mainGlobals mg → mg d.name = some (.ref fa) →
      ∃ fd : FuncData, (∀ (s : Shared) (u : Value), BindsTo s fd ⟨[u], []⟩ [("_law_script", u)]) ∧ ∀ base : Heap, (K w.params).In base → base.Ns mainGlobals mg → FnOk prg w (K w.params) mg base (L2.CX prg w) 14 fa fd ["_law_script"] (spLaw (K w.params))) :
    PySem.W.WalkO q loose XP YP l.row.toRowW d [] (fun f vs => PySem.call f vs) :=
  L2.walk_of (n := 63) (k := 14) (x := "_law_script") (CX := fun w => L2.CX prg w) (sp := fun w => spLaw (K w.params)) hn (by decide) hdf ⟨rfl, by decide, by decide⟩ hY (by rw [hp]; exact F) (fun _ _ a ns hl _ hS => ⟨a, ns, rfl, hS, hl, fun _ => rfl⟩) fun w H s e s' z => no_cx w H s e s' z
end Rz
open PySem PySem.W PyProof.Rows in
set_option maxRecDepth 100000 in
set_option maxHeartbeats 0 in
theorem PySem.Challenge.cw_risensigns_k13_weights_fall_holds : PySem.Challenge.rw_risensigns_k13_weights_fall.Holds := by
  w_on; o_law; k_head; (case hw => w_witness2)
  k_fill
  refine Rz.walk (l := PySem.Challenge.rw_risensigns_k13_weights_fall) rfl rfl rfl (fun w h Y => PySem.W.kIn_of Y) ?F
  case F =>
    intro w mg fa h KX G hmg
    refine' Rz.all_mk KX G hmg ?z_abs ?z_bool ?z_bytes ?z_classmethod ?z_enumerate ?z_int ?z_isinstance ?z_iter ?z_len ?z_list ?z_max ?z_min ?z_property ?z_range ?z_str ?z_sum ?z_tuple ?z_zip ?a_SIGNS ?a_GREATEST_HEIGHT ?a_MOST_SIGNS ?a_MOST_RULES ?a_BadSign ?l_BadSign ?ve_BadSign ?sa_BadSign ?eb_BadSign ?ev_BadSign ?ty_BadSign ?kc_BadSign ?ga_BadSign ?gg_BadSign ?nf_BadSign ?hd_BadSign ?mc_BadSign ?si_BadSign ?i_BadSign_init ?t_BadSign_init ?l_BadSign_init ?d_BadSign_init ?e_BadSign_init ?v_BadSign_init ?g_BadSign_init ?h_BadSign_init ?em_BadSign_BadSign ?a_BadHeight ?l_BadHeight ?ve_BadHeight ?sa_BadHeight ?eb_BadHeight ?ev_BadHeight ?ty_BadHeight ?kc_BadHeight ?ga_BadHeight ?gg_BadHeight ?nf_BadHeight ?hd_BadHeight ?mc_BadHeight ?si_BadHeight ?i_BadHeight_init ?t_BadHeight_init ?l_BadHeight_init ?d_BadHeight_init ?e_BadHeight_init ?v_BadHeight_init ?g_BadHeight_init ?h_BadHeight_init ?em_BadHeight_BadSign ?em_BadHeight_BadHeight ?a_BadLine ?l_BadLine ?ve_BadLine ?sa_BadLine ?eb_BadLine ?ev_BadLine ?ty_BadLine ?kc_BadLine ?ga_BadLine ?gg_BadLine ?nf_BadLine ?hd_BadLine ?mc_BadLine ?si_BadLine ?i_BadLine_init ?t_BadLine_init ?l_BadLine_init ?d_BadLine_init ?e_BadLine_init ?v_BadLine_init ?g_BadLine_init ?h_BadLine_init ?em_BadLine_BadSign ?em_BadLine_BadHeight ?em_BadLine_BadLine ?a_BadBound ?l_BadBound ?ve_BadBound ?sa_BadBound ?eb_BadBound ?ev_BadBound ?ty_BadBound ?kc_BadBound ?ga_BadBound ?gg_BadBound ?nf_BadBound ?hd_BadBound ?mc_BadBound ?si_BadBound ?i_BadBound_init ?t_BadBound_init ?l_BadBound_init ?d_BadBound_init ?e_BadBound_init ?v_BadBound_init ?g_BadBound_init ?h_BadBound_init ?em_BadBound_BadSign ?em_BadBound_BadHeight ?em_BadBound_BadLine ?em_BadBound_BadBound ?a_Uneven ?o_Uneven ?kp_Uneven ?r_Uneven ?t_Uneven ?em_Uneven_BadSign ?em_Uneven_BadHeight ?em_Uneven_BadLine ?em_Uneven_BadBound ?em_Uneven_Uneven ?a_BadRule ?o_BadRule ?kp_BadRule ?r_BadRule ?t_BadRule ?em_BadRule_BadSign ?em_BadRule_BadHeight ?em_BadRule_BadLine ?em_BadRule_BadBound ?em_BadRule_Uneven ?em_BadRule_BadRule ?a_BookFull ?o_BookFull ?kp_BookFull ?r_BookFull ?t_BookFull ?em_BookFull_BadSign ?em_BookFull_BadHeight ?em_BookFull_BadLine ?em_BookFull_BadBound ?em_BookFull_Uneven ?em_BookFull_BadRule ?em_BookFull_BookFull ?em_BadSign_BadHeight ?em_BadSign_BadLine ?em_BadSign_BadBound ?em_BadSign_Uneven ?em_BadSign_BadRule ?em_BadSign_BookFull ?em_BadHeight_BadLine ?em_BadHeight_BadBound ?em_BadHeight_Uneven ?em_BadHeight_BadRule ?em_BadHeight_BookFull ?em_BadLine_BadBound ?em_BadLine_Uneven ?em_BadLine_BadRule ?em_BadLine_BookFull ?em_BadBound_Uneven ?em_BadBound_BadRule ?em_BadBound_BookFull ?em_Uneven_BadRule ?em_Uneven_BookFull ?em_BadRule_BookFull ?z_super ?ops ?a_Row ?pg_Row ?hd_Row ?po_Row ?sa_Row ?mk_Row ?kc_Row ?j0_Row ?j1_Row ?j2_Row ?j3_Row ?j4_Row ?sf_Row ?nsq_Row ?na_Row__pairs ?a_Rule ?pg_Rule ?hd_Rule ?po_Rule ?sa_Rule ?mk_Rule ?kc_Rule ?j0_Rule ?j1_Rule ?j2_Rule ?j3_Rule ?j4_Rule ?sf_Rule ?na_Rule_left ?na_Rule_right ?a_Book ?pg_Book ?hd_Book ?po_Book ?sa_Book ?mk_Book ?kc_Book ?j0_Book ?j1_Book ?j2_Book ?j3_Book ?j4_Book ?sf_Book ?na_Book__rules ?a_check_text ?l_check_text ?d_check_text ?k_check_text ?a_decoded ?l_decoded ?d_decoded ?k_decoded ?a_check_height ?l_check_height ?d_check_height ?k_check_height ?a_check_bound ?l_check_bound ?d_check_bound ?k_check_bound ?a_Row_init ?i_Row_init ?l_Row_init ?d_Row_init ?k_Row_init ?u_Row_init ?a_Row_signs ?pg_Row_signs ?pt_Row_signs ?pr_Row_signs ?l_Row_signs ?d_Row_signs ?k_Row_signs ?a_Row_heights ?pg_Row_heights ?pt_Row_heights ?pr_Row_heights ?l_Row_heights ?d_Row_heights ?k_Row_heights ?a_Row_len ?i_Row_len ?l_Row_len ?d_Row_len ?k_Row_len ?a_Row_iter ?i_Row_iter ?l_Row_iter ?d_Row_iter ?k_Row_iter ?a_Row_abs ?i_Row_abs ?l_Row_abs ?d_Row_abs ?k_Row_abs ?a_Rule_init ?i_Rule_init ?l_Rule_init ?d_Rule_init ?k_Rule_init ?u_Rule_init ?a_Rule_str ?i_Rule_str ?l_Rule_str ?d_Rule_str ?k_Rule_str ?a__fits ?l__fits ?d__fits ?k__fits ?a_Book_init ?i_Book_init ?l_Book_init ?d_Book_init ?k_Book_init ?a_Book_longest ?pg_Book_longest ?pt_Book_longest ?pr_Book_longest ?l_Book_longest ?d_Book_longest ?k_Book_longest ?a_Book_written ?i_Book_written ?l_Book_written ?d_Book_written ?k_Book_written ?a__read_rule ?l__read_rule ?d__read_rule ?k__read_rule ?cr1_Book_read ?cr2_Book_read ?a_Book_read ?pr_Book_read ?fi_Book_read ?l_Book_read ?d_Book_read ?k_Book_read ?a_Book_steps ?i_Book_steps ?l_Book_steps ?d_Book_steps ?k_Book_steps ?a_Book_powers ?i_Book_powers ?l_Book_powers ?d_Book_powers ?k_Book_powers ?a_Book_weight ?i_Book_weight ?l_Book_weight ?d_Book_weight ?k_Book_weight ?a_Book_limit ?i_Book_limit ?l_Book_limit ?d_Book_limit ?k_Book_limit ?a__law_pool ?l__law_pool ?d__law_pool ?k__law_pool ?a__law_pick ?l__law_pick ?d__law_pick ?k__law_pick ?a__law_alphabet ?l__law_alphabet ?d__law_alphabet ?k__law_alphabet ?a__law_word_of ?l__law_word_of ?d__law_word_of ?k__law_word_of ?a__law_book_of ?l__law_book_of ?d__law_book_of ?k__law_book_of ?a__law_is_int ?l__law_is_int ?d__law_is_int ?k__law_is_int ?a__law_take ?l__law_take ?d__law_take ?k__law_take ?a__law_lines_of ?l__law_lines_of ?d__law_lines_of ?k__law_lines_of ?a__law_as_row ?l__law_as_row ?d__law_as_row ?k__law_as_row ?a__law_power ?l__law_power ?d__law_power ?k__law_power ?a__law_due_of ?l__law_due_of ?d__law_due_of ?k__law_due_of ?a__law_weighed ?l__law_weighed ?d__law_weighed ?k__law_weighed ?a__law_limited ?l__law_limited ?d__law_limited ?k__law_limited ?a_law ?l_law ?d_law ?k_law
    (case z_abs => k_is)
    (case z_bool => k_is)
    (case z_bytes => k_is)
    (case z_classmethod => k_is)
    (case z_enumerate => k_is)
    (case z_int => k_is)
    (case z_isinstance => k_is)
    (case z_iter => k_is)
    (case z_len => k_is)
    (case z_list => k_is)
    (case z_max => k_is)
    (case z_min => k_is)
    (case z_property => k_is)
    (case z_range => k_is)
    (case z_str => k_is)
    (case z_sum => k_is)
    (case z_tuple => k_is)
    (case z_zip => k_is)
    (case a_SIGNS => k_is)
    (case a_GREATEST_HEIGHT => k_is)
    (case a_MOST_SIGNS => k_is)
    (case a_MOST_RULES => k_is)
    (case a_BadSign => k_is)
    (case l_BadSign => k_is)
    (case ve_BadSign => first | rfl | kernel_rfl | decide +kernel)
    (case sa_BadSign => k_is)
    (case eb_BadSign => k_is)
    (case ev_BadSign => k_is)
    (case ty_BadSign => k_is)
    (case kc_BadSign => k_is)
    (case ga_BadSign => k_is)
    (case gg_BadSign => k_is)
    (case nf_BadSign => k_is)
    (case hd_BadSign => k_is)
    (case mc_BadSign => k_is)
    (case si_BadSign => first | rfl | kernel_rfl | decide +kernel)
    (case i_BadSign_init => k_is)
    (case t_BadSign_init => k_is)
    (case l_BadSign_init => k_is)
    (case d_BadSign_init => k_is)
    (case e_BadSign_init => k_is)
    (case v_BadSign_init => rfl)
    (case g_BadSign_init => first | rfl | kernel_rfl | decide +kernel)
    (case h_BadSign_init => k_is)
    (case em_BadSign_BadSign => first | rfl | kernel_rfl | decide +kernel)
    (case a_BadHeight => k_is)
    (case l_BadHeight => k_is)
    (case ve_BadHeight => first | rfl | kernel_rfl | decide +kernel)
    (case sa_BadHeight => k_is)
    (case eb_BadHeight => k_is)
    (case ev_BadHeight => k_is)
    (case ty_BadHeight => k_is)
    (case kc_BadHeight => k_is)
    (case ga_BadHeight => k_is)
    (case gg_BadHeight => k_is)
    (case nf_BadHeight => k_is)
    (case hd_BadHeight => k_is)
    (case mc_BadHeight => k_is)
    (case si_BadHeight => first | rfl | kernel_rfl | decide +kernel)
    (case i_BadHeight_init => k_is)
    (case t_BadHeight_init => k_is)
    (case l_BadHeight_init => k_is)
    (case d_BadHeight_init => k_is)
    (case e_BadHeight_init => k_is)
    (case v_BadHeight_init => rfl)
    (case g_BadHeight_init => first | rfl | kernel_rfl | decide +kernel)
    (case h_BadHeight_init => k_is)
    (case em_BadHeight_BadSign => first | rfl | kernel_rfl | decide +kernel)
    (case em_BadHeight_BadHeight => first | rfl | kernel_rfl | decide +kernel)
    (case a_BadLine => k_is)
    (case l_BadLine => k_is)
    (case ve_BadLine => first | rfl | kernel_rfl | decide +kernel)
    (case sa_BadLine => k_is)
    (case eb_BadLine => k_is)
    (case ev_BadLine => k_is)
    (case ty_BadLine => k_is)
    (case kc_BadLine => k_is)
    (case ga_BadLine => k_is)
    (case gg_BadLine => k_is)
    (case nf_BadLine => k_is)
    (case hd_BadLine => k_is)
    (case mc_BadLine => k_is)
    (case si_BadLine => first | rfl | kernel_rfl | decide +kernel)
    (case i_BadLine_init => k_is)
    (case t_BadLine_init => k_is)
    (case l_BadLine_init => k_is)
    (case d_BadLine_init => k_is)
    (case e_BadLine_init => k_is)
    (case v_BadLine_init => rfl)
    (case g_BadLine_init => first | rfl | kernel_rfl | decide +kernel)
    (case h_BadLine_init => k_is)
    (case em_BadLine_BadSign => first | rfl | kernel_rfl | decide +kernel)
    (case em_BadLine_BadHeight => first | rfl | kernel_rfl | decide +kernel)
    (case em_BadLine_BadLine => first | rfl | kernel_rfl | decide +kernel)
    (case a_BadBound => k_is)
    (case l_BadBound => k_is)
    (case ve_BadBound => first | rfl | kernel_rfl | decide +kernel)
    (case sa_BadBound => k_is)
    (case eb_BadBound => k_is)
    (case ev_BadBound => k_is)
    (case ty_BadBound => k_is)
    (case kc_BadBound => k_is)
    (case ga_BadBound => k_is)
    (case gg_BadBound => k_is)
    (case nf_BadBound => k_is)
    (case hd_BadBound => k_is)
    (case mc_BadBound => k_is)
    (case si_BadBound => first | rfl | kernel_rfl | decide +kernel)
    (case i_BadBound_init => k_is)
    (case t_BadBound_init => k_is)
    (case l_BadBound_init => k_is)
    (case d_BadBound_init => k_is)
    (case e_BadBound_init => k_is)
    (case v_BadBound_init => rfl)
    (case g_BadBound_init => first | rfl | kernel_rfl | decide +kernel)
    (case h_BadBound_init => k_is)
    (case em_BadBound_BadSign => first | rfl | kernel_rfl | decide +kernel)
    (case em_BadBound_BadHeight => first | rfl | kernel_rfl | decide +kernel)
    (case em_BadBound_BadLine => first | rfl | kernel_rfl | decide +kernel)
    (case em_BadBound_BadBound => first | rfl | kernel_rfl | decide +kernel)
    (case a_Uneven => k_is)
    (case o_Uneven => k_exc)
    (case kp_Uneven => k_is)
    (case r_Uneven => k_is)
    (case t_Uneven => k_is)
    (case em_Uneven_BadSign => first | rfl | kernel_rfl | decide +kernel)
    (case em_Uneven_BadHeight => first | rfl | kernel_rfl | decide +kernel)
    (case em_Uneven_BadLine => first | rfl | kernel_rfl | decide +kernel)
    (case em_Uneven_BadBound => first | rfl | kernel_rfl | decide +kernel)
    (case em_Uneven_Uneven => first | rfl | kernel_rfl | decide +kernel)
    (case a_BadRule => k_is)
    (case o_BadRule => k_exc)
    (case kp_BadRule => k_is)
    (case r_BadRule => k_is)
    (case t_BadRule => k_is)
    (case em_BadRule_BadSign => first | rfl | kernel_rfl | decide +kernel)
    (case em_BadRule_BadHeight => first | rfl | kernel_rfl | decide +kernel)
    (case em_BadRule_BadLine => first | rfl | kernel_rfl | decide +kernel)
    (case em_BadRule_BadBound => first | rfl | kernel_rfl | decide +kernel)
    (case em_BadRule_Uneven => first | rfl | kernel_rfl | decide +kernel)
    (case em_BadRule_BadRule => first | rfl | kernel_rfl | decide +kernel)
    (case a_BookFull => k_is)
    (case o_BookFull => k_exc)
    (case kp_BookFull => k_is)
    (case r_BookFull => k_is)
    (case t_BookFull => k_is)
    (case em_BookFull_BadSign => first | rfl | kernel_rfl | decide +kernel)
    (case em_BookFull_BadHeight => first | rfl | kernel_rfl | decide +kernel)
    (case em_BookFull_BadLine => first | rfl | kernel_rfl | decide +kernel)
    (case em_BookFull_BadBound => first | rfl | kernel_rfl | decide +kernel)
    (case em_BookFull_Uneven => first | rfl | kernel_rfl | decide +kernel)
    (case em_BookFull_BadRule => first | rfl | kernel_rfl | decide +kernel)
    (case em_BookFull_BookFull => first | rfl | kernel_rfl | decide +kernel)
    (case em_BadSign_BadHeight => first | rfl | kernel_rfl | decide +kernel)
    (case em_BadSign_BadLine => first | rfl | kernel_rfl | decide +kernel)
    (case em_BadSign_BadBound => first | rfl | kernel_rfl | decide +kernel)
    (case em_BadSign_Uneven => first | rfl | kernel_rfl | decide +kernel)
    (case em_BadSign_BadRule => first | rfl | kernel_rfl | decide +kernel)
    (case em_BadSign_BookFull => first | rfl | kernel_rfl | decide +kernel)
    (case em_BadHeight_BadLine => first | rfl | kernel_rfl | decide +kernel)
    (case em_BadHeight_BadBound => first | rfl | kernel_rfl | decide +kernel)
    (case em_BadHeight_Uneven => first | rfl | kernel_rfl | decide +kernel)
    (case em_BadHeight_BadRule => first | rfl | kernel_rfl | decide +kernel)
    (case em_BadHeight_BookFull => first | rfl | kernel_rfl | decide +kernel)
    (case em_BadLine_BadBound => first | rfl | kernel_rfl | decide +kernel)
    (case em_BadLine_Uneven => first | rfl | kernel_rfl | decide +kernel)
    (case em_BadLine_BadRule => first | rfl | kernel_rfl | decide +kernel)
    (case em_BadLine_BookFull => first | rfl | kernel_rfl | decide +kernel)
    (case em_BadBound_Uneven => first | rfl | kernel_rfl | decide +kernel)
    (case em_BadBound_BadRule => first | rfl | kernel_rfl | decide +kernel)
    (case em_BadBound_BookFull => first | rfl | kernel_rfl | decide +kernel)
    (case em_Uneven_BadRule => first | rfl | kernel_rfl | decide +kernel)
    (case em_Uneven_BookFull => first | rfl | kernel_rfl | decide +kernel)
    (case em_BadRule_BookFull => first | rfl | kernel_rfl | decide +kernel)
    (case z_super => k_is)
    (case ops => k_is)
    (case a_Row => k_is)
    (case pg_Row => k_is)
    (case hd_Row => k_is)
    (case po_Row => k_is)
    (case sa_Row => k_is)
    (case mk_Row => k_is)
    (case kc_Row => k_is)
    (case j0_Row => k_is)
    (case j1_Row => k_is)
    (case j2_Row => k_is)
    (case j3_Row => k_is)
    (case j4_Row => first | rfl | kernel_rfl | decide +kernel)
    (case sf_Row => k_is)
    (case nsq_Row => k_is)
    (case na_Row__pairs => k_is)
    (case a_Rule => k_is)
    (case pg_Rule => k_is)
    (case hd_Rule => k_is)
    (case po_Rule => k_is)
    (case sa_Rule => k_is)
    (case mk_Rule => k_is)
    (case kc_Rule => k_is)
    (case j0_Rule => k_is)
    (case j1_Rule => k_is)
    (case j2_Rule => k_is)
    (case j3_Rule => k_is)
    (case j4_Rule => first | rfl | kernel_rfl | decide +kernel)
    (case sf_Rule => k_is)
    (case na_Rule_left => k_is)
    (case na_Rule_right => k_is)
    (case a_Book => k_is)
    (case pg_Book => k_is)
    (case hd_Book => k_is)
    (case po_Book => k_is)
    (case sa_Book => k_is)
    (case mk_Book => k_is)
    (case kc_Book => k_is)
    (case j0_Book => k_is)
    (case j1_Book => k_is)
    (case j2_Book => k_is)
    (case j3_Book => k_is)
    (case j4_Book => first | rfl | kernel_rfl | decide +kernel)
    (case sf_Book => k_is)
    (case na_Book__rules => k_is)
    (case a_check_text => k_is)
    (case l_check_text => k_is)
    (case d_check_text => k_is)
    (case k_check_text => k_is)
    (case a_decoded => k_is)
    (case l_decoded => k_is)
    (case d_decoded => k_is)
    (case k_decoded => k_is)
    (case a_check_height => k_is)
    (case l_check_height => k_is)
    (case d_check_height => k_is)
    (case k_check_height => k_is)
    (case a_check_bound => k_is)
    (case l_check_bound => k_is)
    (case d_check_bound => k_is)
    (case k_check_bound => k_is)
    (case a_Row_init => k_is)
    (case i_Row_init => k_is)
    (case l_Row_init => k_is)
    (case d_Row_init => k_is)
    (case k_Row_init => k_is)
    (case u_Row_init => k_is)
    (case a_Row_signs => k_is)
    (case pg_Row_signs => k_is)
    (case pt_Row_signs => k_is)
    (case pr_Row_signs => k_is)
    (case l_Row_signs => k_is)
    (case d_Row_signs => k_is)
    (case k_Row_signs => k_is)
    (case a_Row_heights => k_is)
    (case pg_Row_heights => k_is)
    (case pt_Row_heights => k_is)
    (case pr_Row_heights => k_is)
    (case l_Row_heights => k_is)
    (case d_Row_heights => k_is)
    (case k_Row_heights => k_is)
    (case a_Row_len => k_is)
    (case i_Row_len => k_is)
    (case l_Row_len => k_is)
    (case d_Row_len => k_is)
    (case k_Row_len => k_is)
    (case a_Row_iter => k_is)
    (case i_Row_iter => k_is)
    (case l_Row_iter => k_is)
    (case d_Row_iter => k_is)
    (case k_Row_iter => k_is)
    (case a_Row_abs => k_is)
    (case i_Row_abs => k_is)
    (case l_Row_abs => k_is)
    (case d_Row_abs => k_is)
    (case k_Row_abs => k_is)
    (case a_Rule_init => k_is)
    (case i_Rule_init => k_is)
    (case l_Rule_init => k_is)
    (case d_Rule_init => k_is)
    (case k_Rule_init => k_is)
    (case u_Rule_init => k_is)
    (case a_Rule_str => k_is)
    (case i_Rule_str => k_is)
    (case l_Rule_str => k_is)
    (case d_Rule_str => k_is)
    (case k_Rule_str => k_is)
    (case a__fits => k_is)
    (case l__fits => k_is)
    (case d__fits => k_is)
    (case k__fits => k_is)
    (case a_Book_init => k_is)
    (case i_Book_init => k_is)
    (case l_Book_init => k_is)
    (case d_Book_init => k_is)
    (case k_Book_init => k_is)
    (case a_Book_longest => k_is)
    (case pg_Book_longest => k_is)
    (case pt_Book_longest => k_is)
    (case pr_Book_longest => k_is)
    (case l_Book_longest => k_is)
    (case d_Book_longest => k_is)
    (case k_Book_longest => k_is)
    (case a_Book_written => k_is)
    (case i_Book_written => k_is)
    (case l_Book_written => k_is)
    (case d_Book_written => k_is)
    (case k_Book_written => k_is)
    (case a__read_rule => k_is)
    (case l__read_rule => k_is)
    (case d__read_rule => k_is)
    (case k__read_rule => k_is)
    (case cr1_Book_read => k_is)
    (case cr2_Book_read => k_is)
    (case a_Book_read => k_is)
    (case pr_Book_read => k_is)
    (case fi_Book_read => k_is)
    (case l_Book_read => k_is)
    (case d_Book_read => k_is)
    (case k_Book_read => k_is)
    (case a_Book_steps => k_is)
    (case i_Book_steps => k_is)
    (case l_Book_steps => k_is)
    (case d_Book_steps => k_is)
    (case k_Book_steps => k_is)
    (case a_Book_powers => k_is)
    (case i_Book_powers => k_is)
    (case l_Book_powers => k_is)
    (case d_Book_powers => k_is)
    (case k_Book_powers => k_is)
    (case a_Book_weight => k_is)
    (case i_Book_weight => k_is)
    (case l_Book_weight => k_is)
    (case d_Book_weight => k_is)
    (case k_Book_weight => k_is)
    (case a_Book_limit => k_is)
    (case i_Book_limit => k_is)
    (case l_Book_limit => k_is)
    (case d_Book_limit => k_is)
    (case k_Book_limit => k_is)
    (case a__law_pool => k_is)
    (case l__law_pool => k_is)
    (case d__law_pool => k_is)
    (case k__law_pool => k_is)
    (case a__law_pick => k_is)
    (case l__law_pick => k_is)
    (case d__law_pick => k_is)
    (case k__law_pick => k_is)
    (case a__law_alphabet => k_is)
    (case l__law_alphabet => k_is)
    (case d__law_alphabet => k_is)
    (case k__law_alphabet => k_is)
    (case a__law_word_of => k_is)
    (case l__law_word_of => k_is)
    (case d__law_word_of => k_is)
    (case k__law_word_of => k_is)
    (case a__law_book_of => k_is)
    (case l__law_book_of => k_is)
    (case d__law_book_of => k_is)
    (case k__law_book_of => k_is)
    (case a__law_is_int => k_is)
    (case l__law_is_int => k_is)
    (case d__law_is_int => k_is)
    (case k__law_is_int => k_is)
    (case a__law_take => k_is)
    (case l__law_take => k_is)
    (case d__law_take => k_is)
    (case k__law_take => k_is)
    (case a__law_lines_of => k_is)
    (case l__law_lines_of => k_is)
    (case d__law_lines_of => k_is)
    (case k__law_lines_of => k_is)
    (case a__law_as_row => k_is)
    (case l__law_as_row => k_is)
    (case d__law_as_row => k_is)
    (case k__law_as_row => k_is)
    (case a__law_power => k_is)
    (case l__law_power => k_is)
    (case d__law_power => k_is)
    (case k__law_power => k_is)
    (case a__law_due_of => k_is)
    (case l__law_due_of => k_is)
    (case d__law_due_of => k_is)
    (case k__law_due_of => k_is)
    (case a__law_weighed => k_is)
    (case l__law_weighed => k_is)
    (case d__law_weighed => k_is)
    (case k__law_weighed => k_is)
    (case a__law_limited => k_is)
    (case l__law_limited => k_is)
    (case d__law_limited => k_is)
    (case k__law_limited => k_is)
    (case a_law => k_is)
    (case l_law => k_is)
    (case d_law => k_is)
    (case k_law => k_is)
#print axioms PySem.Challenge.cw_risensigns_k13_weights_fall_holds
