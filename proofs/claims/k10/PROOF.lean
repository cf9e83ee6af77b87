import PyProof.Rows.All
import Wide.All
import OpenK.AllK
import Wide.FinOn
import KE.KExcSuper
import KE.GoesEnum
import HandS.ForMost
import HandS.ForExc
import HandS.ExcInit
import HandS.ExcField
import HandS.TryMany
import HandS.Walk
import HandS.Defaults
import HandS.Property
import HandS.IsInst
import HandS.Codes
import HandS.FStr
import KE.KCallOwn
import KE.KDictZip
import KE.GoesZip
import KE.GoesMore
import HandS.ListItems
import HandS.Zip
import KE.KOpsOwn
import KE.KOwnIter
import HandS.IterNext
import HandS.SortKw
import PyProof.WalkInts
import HandS.More
import HandS.Star
import HandS.ClsMeth
import HandS.TupAny
import HandS.StrMore
import HandS.IterVal
import HandS.SetTxt0
import HandS.Set
import HandS.Strs
import HandS.SetFor
import PyProof.StrWalks
import KE.GoesEnumKw
import HandS.GenList
import HandS.Replace
import HandS.ReplaceList
import HandS.MakeKwOnly
import HandS.ExcInitHot
import KE.KTryMore
import KE.KxDecode
import KE.KStrBytes
import HandS.Bytes
import KE.KBytesDec
import PySem.Challenge.RW_risensigns_k10_book_read
set_option Elab.async false
set_option linter.all false
set_option maxRecDepth 100000
set_option maxHeartbeats 4000000
namespace Rz
open PySem PySem.Spec PyProof.Rows L2

theorem one_lookup {x k : Str} {a c : Addr} (h : List.lookup x [(k, a)] = some c) : c = a := by
  by_cases e : x = k
  · subst e
    simp [List.lookup] at h
    exact h.symm
  · have e2 : (x == k) = false := by simpa using e
    simp [List.lookup, e2] at h

/-- the context of an __init__ that knows its class -/
def cxS (P : Program) (w : World) (K : PySem.W.Frag) (mg : Str → Option Value) (base : Heap) (N : List Str) (qual : Str) (scope : Scope) (f : Addr) (cd : Value) (cc : Addr) (A : Around) (outer : List Env) (s : Shared) (H : Hp) : Cx where
  prog := P
  w := w
  K := K
  mg := mg
  base := base
  A := A.deeper (PySem.W.ksEnv qual scope s.heap.objs.size f cd cc)
  N := N
  s_0 := s
  H_0 := H
  env := PySem.W.ksEnv qual scope s.heap.objs.size f cd cc
  outer := outer
  stack := PySem.W.ksEnv qual scope s.heap.objs.size f cd cc :: outer
  ex := []
  calm := true
  fn := fun _ => false
  pn := []
  xe := fun _ _ => False

/-- what such an __init__ promises: the field is set -/
def spExI (C : Addr) (fld : Str) : Sp := fun vs H Q _ => ∃ (a : Addr) (n : Int), vs = [.ref a, .int n] ∧ n.natAbs.log2 < 1920 ∧ H a = some (exo a C none) ∧
  ∀ dx, H dx = none → dx ≠ a → Q .non (upd (upd H dx (exd dx [(fld, .int n)])) a (exo a C (some dx)))

/-- super().__init__(..) of an exception that has no dict yet -/
theorem call_mw {X : Cx} {pins : List (Addr × Obj)} {σ : L2.St} {H : Hp} {s : Shared} {a C u : Addr} {us : List Value} {Q : Value → Shared → Prop} {E : Value → Shared → Prop} {A : Around} (T : OexC X.K C) (I : Inv X pins σ H s) (e : H a = some (exo a C none)) (hl : us.length ≤ sizeLine)
    (hu : s.heap.get? u = some (PySem.W.kxs_mw "ValueError.__init__" a)) (h : ∀ s', Inv X pins σ H s' → Q .none s') : wpAny (model X.prog X.w) A (call (.ref u) us) Q E s := by
  obtain ⟨nm, q, N, bs, bm, sn, sub, ab, col, dd, k0, k1, k2, k3, k5, hC, hbm⟩ := T.cls
  obtain ⟨t1, ho⟩ := exo_at I.hok e
  have hC' := I.kIn _ _ hC
  have fin : ∀ (h' : Heap) (t2 : Addr), (∀ b o, b ≠ a → s.heap.get? b = some o → h'.get? b = some o) → h'.get? a = some ({ cls := .ref C, dict := none, data := .fields #[.ref t2, .none, .none, .none, .bool false, .none] } : Obj) → Inv X pins σ H { s with heap := h' } := fun h' t2 k hx => by
    have J := I.write (t' := s.toks) (x := a) (e := a) (o := exo a C none) (by rw [e]; exact True.intro) (.inl rfl) k ⟨_, hx⟩ (exo_ok hx)
    have eu : upd H a (exo a C none) = H := by
      funext b
      by_cases hb : b = a
      · rw [hb, upd_same, e]
      · rw [upd_ne hb]
    rw [eu] at J
    exact J
  obtain ⟨hp, g, d, t, os⟩ := s
  refine wpAny_call (codeAny_of_tree ?_)
  show wpAny _ A.in1 (callAny (.ref u) ⟨us, []⟩) _ _ _
  simp only [callAny]
  refine wpAny_bind (wpAny_load hu ?_)
  simp only [PySem.W.kxs_mw, show (Value.type "method-wrapper" == Value.type "method" || Value.type "method-wrapper" == Value.type "builtin_function_or_method" || Value.type "method-wrapper" == Value.type "method-wrapper") = true by decide, if_true]
  refine PySem.W.KFB.if_so (by decide) ?_
  refine wpAny_bind (PySem.W.check_bound_init F.excBase_ValueError.toExcCallFacts hC' ho rfl ?_)
  refine wpAny_bind (wpAny_pure (wpAny_pure ?_))
  refine ⟨plainId_quiet F.excBase_ValueError.init.plain _, codeAny_builtin F.excBase_ValueError.initEntry ?_⟩
  rw [Around.under_plainId F.excBase_ValueError.init.plain _]
  exact PySem.W.exc_init_tree (cls := .ref C) (t0 := t1) (dv := none) (c2 := .none) (c3 := .none) (b4 := .bool false) ho hl fun h' k hx _ => h _ (fin h' _ k hx)

section
variable {P : Program} {w : World} {K : PySem.W.Frag} {mg : Str → Option Value} {base : Heap}
theorem exsup_ok {CX : CXT} {k : Nat} {C f cc cda : Addr} {qual fld : Str} {params : Arguments} {body : List Stmt} {scope : Scope} {oc kV doc pm ct ccl cl : Value} {od an cdd cld : Option Addr} {osl ccs csl : Array (Option Value)} {vs5 : Array Value} {file : Str} {tf : Tok} {ar : Arg}
    {p0 p1 p2 p3 p4 q1 q2 q3 q4 : Pos} {e : Expr}
    (T : OexC K C)
    (lk : K.lookup f = some ⟨oc, od, .func (PySem.W.ksFn "__init__" qual params body scope .none kV doc pm an (.ref cda) ct cc), osl⟩) (hcd : PySem.W.codeIn K (.ref cda) qual = true)
    (hcode : K.lookup cda = some ⟨ccl, cdd, .fields vs5, ccs⟩) (hvs : vs5[2]? = some (.str file tf)) (hfile : ((P.main.file : Str) == file) = true)
    (hcell : K.lookup cc = some ⟨cl, cld, .cell (some (.ref C)), csl⟩)
    (hops : PySem.W.nsIn K cStatics "thirdparty.any" = some none) (hsuper : mg "super" = none)
    (hsin : PySem.W.ks_superIn K C C "__init__" = some (some (.builtin "ValueError.__init__")))
    (hB : PySem.W.subIn K (.ref C) (.type "ValueError") = some true) (hCC : PySem.W.mroIn K C (.ref C) = some true) (noN : PySem.W.findIn K (.ref C) fld = some none)
    (htop : (P.main.scope.names.lookup ("super" : Str)).isSome = false)
    (hbody : body = [.Expr (.Call (.Attribute (.Call (.Name "super" p0) [] [] p1) "__init__" p2) [e] [] p3) p4, .Assign [.Attribute (.Name "self" q1) fld q2] (.Name fld q3) q4])
    (hp : (params.posonlyargs ++ params.args).head? = some ar) (har : ar.arg = "self")
    (hks : scope.names.lookup ("super" : Str) = some .globalImplicit) (hkc : scope.names.lookup ("__class__" : Str) = some .free) (hka : scope.names.lookup ("self" : Str) = some .local) (hkf : scope.names.lookup fld = some .local)
    (hkind : scope.kind = .function) (hco : scope.isCoroutine = false) (hgen : scope.isGenerator = false) (hnc : ∀ x ∈ scope.names, x.2 ≠ .cell) (honly : ∀ x, scope.names.lookup x = some .free → x = "__class__") (hnd : fld ≠ "self")
    (hdb : (fld == ("__debug__" : Str)) = false) (hdc : (fld == ("__classdict__" : Str)) = false)
    (hmsg : ∀ X : Cx, X.N = [("self" : Str), fld] → X.env.scope = scope → ∃ t, PE X e t ∧ ∀ (σ : L2.St) (n : Int) (H : Hp) (Q : VK), σ[1]? = some (some (.int n)) → n.natAbs.log2 < 1920 → (∀ z : Str, Q (.str z) H) → t σ H Q)
    (hst : ∀ (L : Addr), starEach [e] (PySem.W.ksEnv qual scope L f (.ref cda) cc) = (false, eval e (PySem.W.ksEnv qual scope L f (.ref cda) cc)) :: starEach [] (PySem.W.ksEnv qual scope L f (.ref cda) cc))
    {pl : Sem Bool} (hms : ∀ (L : Addr), eval (.Call (.Attribute (.Call (.Name "super" p0) [] [] p1) "__init__" p2) [e] [] p3) (PySem.W.ksEnv qual scope L f (.ref cda) cc) = (do
      let ov ← attributeBase (.Call (.Name "super" p0) [] [] p1) "__init__" (PySem.W.ksEnv qual scope L f (.ref cda) cc) (eval (.Call (.Name "super" p0) [] [] p1) (PySem.W.ksEnv qual scope L f (.ref cda) cc))
      standAt p2.atName
      let (g, first) ← holding [ov] (getMethod ov "__init__" pl)
      callWith p3 g first (backTo p3 (starEach [e] (PySem.W.ksEnv qual scope L f (.ref cda) cc))) [])) :
    FnOk P w K mg base CX (k + 1) f (PySem.W.ksFn "__init__" qual params body scope .none kV doc pm an (.ref cda) ct cc) ["self", fld] (spExI C fld) := by
  refine ⟨fun vs H Q E h => ?_, fun A outer s H args us vs Q E hr e0 hb r hsp => ?_⟩
  · obtain ⟨a, n, rfl, _⟩ := h
    rfl
  obtain ⟨a, n, rfl, hn, ha, hk⟩ := hsp
  obtain ⟨u0, u1, rfl, r0, r1⟩ := vals2 r
  obtain rfl : u0 = Value.ref a := r0
  obtain ⟨tk, rfl⟩ := r1
  have KX : K.In s.heap := e0.mod.kin.keeps fun b o q => (e0.bs b o q).1
  have lim : s.heap.NoLimit := e0.mod.nolimit.keeps fun b o q => (e0.bs b o q).1
  refine PySem.ks_codeAny_call_defAt (body := body) (binds := (["self", fld] : List Str).zip [Value.ref a, Value.int n tk]) hr.depth (KX _ _ lk) rfl lim (PySem.W.codeRec_of KX hcd) rfl hb hnc (fun x hx => ?_) (fun h1 hns hk1 => ?_) hco hgen hkind
  · have hx' : x = (("self" : Str), Value.ref a) ∨ x = (fld, Value.int n tk) := by simpa using hx
    rcases hx' with rfl | rfl
    · exact hka
    · exact hkf
  have hne : (("self" : Str) == fld) = false := by simpa using Ne.symm hnd
  have nocell : ∀ x, scope.names.lookup x ≠ some .cell := fun x hx => hnc _ (PySem.mem_of_lookup hx) rfl
  have cells : ∀ {x c}, (cxS P w K mg base ["self", fld] qual scope f (.ref cda) cc A outer s H).env.cells.lookup x = some c → c = cc := fun h => one_lookup h
  have freeCC : H cc = none := (e0.bs _ _ (e0.mod.kin _ _ hcell)).2
  have I : Inv (cxS P w K mg base ["self", fld] qual scope f (.ref cda) cc A outer s H) [] [some (.ref a), some (.int n)] H { s with heap := h1, toks := s.toks + 2 } := by
    have noA : ∀ b : Addr, b ∉ (cxS P w K mg base ["self", fld] qual scope f (.ref cda) cc A outer s H).ex := fun b z => absurd (show b ∈ ([] : List Addr) from z) (by simp)
    refine ⟨⟨e0.mod, hkind, rfl, rfl, Nat.le_refl _, fun y z c h1 h2 => ?_, fun y hy => ?_, fun y c z _ => ?_, fun _ => hr.hd, Around.frames_deeper e0.frames, .inr ⟨rfl, rfl⟩, fun b z => absurd z (noA b), e0.bs, e0.bsz, fun b _ _ => noA b, fun b z => absurd z (noA b), e0.funs, e0.frf⟩,
      rfl, e0.bare, Un.kept hk1, ⟨_, hns, fun i y v h1 h2 h3 => ?_⟩, fun y c h => ?_, e0.hok.fresh (Nat.le_refl _), fun y c h => ?_, fun p hp => absurd (show p ∈ ([] : List (Addr × Obj)) from hp) (by simp), e0.hok.kept hk1, rfl⟩
    · have k1 : ∀ {y c}, List.lookup y [(("__class__" : Str), cc)] = some c → y = "__class__" := fun {y c} q => by
        by_cases z : y = "__class__"
        · exact z
        · have e2 : (y == ("__class__" : Str)) = false := by simpa using z
          simp [List.lookup, e2] at q
      rw [k1 h1, k1 h2]
    · rcases hy with hy | hy
      · exact absurd hy (nocell y)
      · have e1 := honly y hy
        subst e1
        exact ⟨cc, rfl⟩
    · exact Bool.noConfusion (show false = true from z)
    · refine match i, h1, h2 with
        | 0, h1, h2 => ?_
        | 1, h1, h2 => ?_
        | i + 2, h1, h2 => ?_
      · have e1 : ("self" : Str) = y := Option.some.inj h1
        have e2 : V.ref a = v := Option.some.inj (Option.some.inj h2)
        subst e1
        subst e2
        exact ⟨.ref a, rfl, .inl ⟨hka, by simp [List.lookup, hne]⟩⟩
      · have e1 : fld = y := Option.some.inj h1
        have e2 : V.int n = v := Option.some.inj (Option.some.inj h2)
        subst e1
        subst e2
        exact ⟨.int n tk, ⟨tk, rfl⟩, .inl ⟨hkf, by simp [List.lookup]⟩⟩
      · exact absurd h1 (by simp [cxS])
    · rw [cells h]
      exact ⟨_, _, hk1 _ _ (KX _ _ hcell), rfl⟩
    · rw [cells h]
      exact freeCC
  subst hbody
  have KX1 : K.In h1 := KX.keeps hk1
  obtain ⟨nm, q, N, bs, bm, sn, sub, ab, col, dd, k0, k1, k2, k3, k5, hC, hbm⟩ := id T.cls
  have hcl : PySem.W.clsIn K C = some { name := nm, bases := bs, mro := .ref C :: bm, ns := N, qualname := q, hasDict := true, slotNames := sn, subclasses := sub, abstract := ab, collection := col, hasDel := false } := by unfold PySem.W.clsIn; rw [hC] <;> rfl
  obtain ⟨t1, ho⟩ := exo_at I.hok ha
  obtain ⟨mb, b1, b2⟩ := I.mod.blt
  obtain ⟨hh, g, d, t0, os⟩ := s
  have hac : a ≠ C := fun z => by
    have z1 := KX1 _ _ hC
    rw [← z] at z1
    have z2 := z1.symm.trans ho
    cases z2
  refine PySem.ks_wpAt_execs_cons (PySem.ks_wpAt_Expr_any (PySem.ks_wpAt_MethodCall (pl := pl) ?_ (hms _)) I.quiet rfl)
  refine PySem.ks_wpAt_super_base hks hkc (by decide) rfl (KX1 _ _ lk) rfl hp rfl (KX1 _ _ hcode) rfl hvs hfile htop ?_
  refine PySem.W.ks_loadName_global hkind hks (Calls.loadGlobal_builtin (I.mod.glob.keeps I.bk) hsuper (b1.keeps I.bk) ((b2 "super" (by decide)).trans (by decide +kernel : bootBuiltins "super" = some (.type "super"))) ⟨rfl, ?_⟩)
  refine wpAny_loadName_free hkind hkc rfl ⟨_, KX1 _ _ hcell, rfl⟩ ?_
  rw [har]
  refine wpAny_loadName_local (v := .ref a) hkind hka hns (by simp [List.lookup, hne]) ?_
  refine PySem.ks_wpAny_isType_cls (KX1 _ _ hC) rfl ⟨rfl, ?_⟩
  refine PySem.ks_wpAny_call_super (KX1 _ _ hC) rfl ho rfl (fun c z => by cases z) (PySem.W.looks_mroIn KX1 hCC) (fun h2 e2 kk2 => ?_)
  have I2 := I.kept (t' := t0 + 2) kk2
  have KX2 := KX1.keeps kk2
  have ho2 := kk2 _ _ ho
  have hI : PySem.W.Looks (model P w) h2 (isInstance (.ref a) (.type "ValueError")) true :=
    (PySem.W.InstAt.type (M := model P w) (ox := { cls := .ref C, data := .fields #[.ref t1, .none, .none, .none, .bool false, .none] }) (od := none) ⟨ho2, rfl, rfl, trivial⟩).andThen (PySem.W.looks_subIn KX2 hB)
  have hsin2 : PySem.W.alongIn K "__init__" (((Value.ref C :: bm).dropWhile (· != .ref C)).drop 1) = some (some (.builtin "ValueError.__init__")) := by
    unfold PySem.W.ks_superIn at hsin
    rw [hcl] at hsin
    exact hsin
  refine PySem.W.kxs_getMethod PySem.W.kxs_ValueError e2 (PySem.W.looks_opaque KX2 hops) (l₀ := .ref C :: bm) ?_ rfl KX2 hsin2 hI hac (by decide) ?_
  · exact fun A Q E s k q => wpAny_bind ((PySem.W.looks_clsIn KX2 hcl) A _ E s k (wpAny_pure q))
  have kk3 : ∀ b o, h2.get? b = some o → (h2.push (PySem.W.kxs_mw "ValueError.__init__" a)).get? b = some o := fun b o q => Heap.get?_push_of_some _ q
  have I3 := I2.kept (t' := t0 + 2 + 1) kk3
  have hu : (h2.push (PySem.W.kxs_mw "ValueError.__init__" a)).get? h2.objs.size = some (PySem.W.kxs_mw "ValueError.__init__" a) := Heap.get?_push_at rfl rfl
  have I4 := I3.pins_of (pins' := [(h2.objs.size, PySem.W.kxs_mw "ValueError.__init__" a)]) (fun p hp => by
    obtain rfl : p = (h2.objs.size, PySem.W.kxs_mw "ValueError.__init__" a) := by simpa using hp
    refine ⟨hu, I2.hok.fresh (Nat.le_refl _), fun z => ?_, I2.nofs (Nat.le_refl _), fun v z => by cases z⟩
    have z1 := I2.lt
    rw [← z] at z1
    exact Nat.lt_irrefl _ z1)
  obtain ⟨te, pe, rd⟩ := hmsg (cxS P w K mg base ["self", fld] qual scope f (.ref cda) cc A outer ⟨hh, g, d, t0, os⟩ H) rfl rfl
  have pa := pa_cons pe pa_nil (hst _)
  have e3 : backTo p3 (starEach [e] (PySem.W.ksEnv qual scope hh.objs.size f (.ref cda) cc)) = (false, eval e (PySem.W.ksEnv qual scope hh.objs.size f (.ref cda) cc)) :: backTo p3 (starEach [] (PySem.W.ksEnv qual scope hh.objs.size f (.ref cda) cc)) := by rw [hst]; rfl
  refine PySem.W.kxs_callWith (i := "ValueError.__init__") (x := a) (by show (backTo p3 (starEach [e] (PySem.W.ksEnv qual scope hh.objs.size f (.ref cda) cc))).any (·.1) = false; rw [e3]; rfl) ?_
  show wpAny _ _ (evalArgs _ true (backTo p3 (starEach [e] (PySem.W.ksEnv qual scope hh.objs.size f (.ref cda) cc))) []) _ _ _
  rw [e3]
  refine Calls.evalArgs_plain ?_
  rw [← e3]
  refine wpAny_mono (pa.run p3 _ _ _ _ (fun vs H' => (∃ z, vs = [V.str z]) ∧ H' = H) I4 (rd _ n H _ rfl hn fun z => ⟨⟨z, rfl⟩, rfl⟩)) (fun us s5 hu5 => ?_) fun _ _ z => z.elim
  obtain ⟨vs, H', I5, r5, ⟨z, rfl⟩, rfl⟩ := hu5
  have hu6 := (I5.pin (h2.objs.size, PySem.W.kxs_mw "ValueError.__init__" a) (by simp [cxS])).1
  refine ⟨hu6, ?_⟩
  obtain ⟨uz, rfl, _⟩ := vals1 r5
  refine call_mw T I5 ha (by show 1 ≤ sizeLine; decide) hu6 fun s6 I6 => ?_
  show PySem.wpAt _ _ _ (execs _ _) _ _ _
  refine wpAt_of_wpAny ?_
  have J6 := I6.pins_of (pins' := []) (fun p hp => by cases hp)
  have ps : PSs (cxS P w K mg base ["self", fld] qual scope f (.ref cda) cc A outer ⟨hh, g, d, t0, os⟩ H') [.Assign [.Attribute (.Name "self" q1) fld q2] (.Name fld q3) q4] (tOst K fld (tVar 0) (tVar 1)) :=
    pss_one (ps_ost (pe_var rfl (.inl hka)) (pe_var rfl (.inl hkf) hdb hdc) rfl)
  refine wpAny_mono (ps.run [] s6 _ H' { nx := fun _ H2 => Q .non H2, rt := fun _ _ => False } J6 ⟨_, rfl, _, rfl, a, C, rfl, T, noN, .inl ⟨ha, hk⟩⟩) (fun fl s7 hs => ?_) fun _ _ z => z.elim
  cases fl with
  | next =>
    obtain ⟨σ7, H7, J, q7⟩ := hs
    exact ⟨.non, H7, J.os, J.bare, J.base, J.hok, rfl, q7⟩
  | ret u =>
    obtain ⟨_, _, _, _, _, q7⟩ := hs
    exact q7.elim
  | brk =>
    obtain ⟨_, _, _, q7⟩ := hs
    exact q7.elim
  | cont =>
    obtain ⟨_, _, _, q7⟩ := hs
    exact q7.elim
end
/-- what stands of such an __init__ behind the top -/
structure ExInit (P : Program) (K : PySem.W.Frag) (mg : Str → Option Value) (C f : Addr) (fd : FuncData) (fld : Str) (st : Stmt) : Prop where
  ex : ∃ (qual : Str) (oc kV doc pm ct ccl cl : Value) (od an cdd cld : Option Addr) (osl ccs csl : Array (Option Value)) (vs5 : Array Value) (file : Str) (tf : Tok) (cc cda : Addr),
    fd = PySem.W.ksFn "__init__" qual (defArgs st) (defBody st) (defScope st) .none kV doc pm an (.ref cda) ct cc ∧ K.lookup f = some ⟨oc, od, .func fd, osl⟩ ∧ PySem.W.codeIn K (.ref cda) qual = true ∧
    K.lookup cda = some ⟨ccl, cdd, .fields vs5, ccs⟩ ∧ vs5[2]? = some (.str file tf) ∧ ((P.main.file : Str) == file) = true ∧ K.lookup cc = some ⟨cl, cld, .cell (some (.ref C)), csl⟩
  ops : PySem.W.nsIn K cStatics "thirdparty.any" = some none
  nsup : mg "super" = none
  sin : PySem.W.ks_superIn K C C "__init__" = some (some (.builtin "ValueError.__init__"))
  sub : PySem.W.subIn K (.ref C) (.type "ValueError") = some true
  mro : PySem.W.mroIn K C (.ref C) = some true
  noN : PySem.W.findIn K (.ref C) fld = some none
  top : (P.main.scope.names.lookup ("super" : Str)).isSome = false
/-- .. and what its instances are read by -/
structure ExF (K : PySem.W.Frag) (C : Addr) (fld : Str) : Prop where
  xf : XfC K C
  noN : PySem.W.findIn K (.ref C) fld = some none
end Rz

namespace Rz
open PySem PySem.Spec PyProof.Rows L2
theorem str_int_len {n : Int} (h : n.natAbs.log2 < 1920) : (toString n : Str).length ≤ 1921 := PyProof.Rows.int_text_len_1921 h
theorem exinit_ok {P : Program} {w : World} {K : PySem.W.Frag} {mg : Str → Option Value} {base : Heap} {CX : CXT} {C f : Addr} {fd : FuncData} {fld : Str} {st : Stmt} {ar : Arg} {p0 p1 p2 p3 p4 q1 q2 q3 q4 : Pos} {e : Expr}
    (T : OexC K C) (I : ExInit P K mg C f fd fld st)
    (hbody : defBody st = [.Expr (.Call (.Attribute (.Call (.Name "super" p0) [] [] p1) "__init__" p2) [e] [] p3) p4, .Assign [.Attribute (.Name "self" q1) fld q2] (.Name fld q3) q4])
    (hp : ((defArgs st).posonlyargs ++ (defArgs st).args).head? = some ar) (har : ar.arg = "self")
    (hks : (defScope st).names.lookup ("super" : Str) = some .globalImplicit) (hkc : (defScope st).names.lookup ("__class__" : Str) = some .free) (hka : (defScope st).names.lookup ("self" : Str) = some .local) (hkf : (defScope st).names.lookup fld = some .local)
    (hkind : (defScope st).kind = .function) (hco : (defScope st).isCoroutine = false) (hgen : (defScope st).isGenerator = false)
    (hnc : ((defScope st).names.all fun x => decide (x.2 ≠ .cell)) = true) (hfr : ((defScope st).names.all fun x => decide (x.2 = .free → x.1 = "__class__")) = true) (hnd : fld ≠ "self")
    (hdb : (fld == ("__debug__" : Str)) = false) (hdc : (fld == ("__classdict__" : Str)) = false)
    (hmsg : ∀ X : Cx, X.N = [("self" : Str), fld] → X.env.scope = defScope st → ∃ t, PE X e t ∧ ∀ (σ : L2.St) (n : Int) (H : Hp) (Q : VK), σ[1]? = some (some (.int n)) → n.natAbs.log2 < 1920 → (∀ z : Str, Q (.str z) H) → t σ H Q)
    (hst : ∀ (qual : Str) (L cda cc : Addr), starEach [e] (PySem.W.ksEnv qual (defScope st) L f (.ref cda) cc) = (false, eval e (PySem.W.ksEnv qual (defScope st) L f (.ref cda) cc)) :: starEach [] (PySem.W.ksEnv qual (defScope st) L f (.ref cda) cc))
    {pl : Sem Bool} (hms : ∀ (qual : Str) (L cda cc : Addr), eval (.Call (.Attribute (.Call (.Name "super" p0) [] [] p1) "__init__" p2) [e] [] p3) (PySem.W.ksEnv qual (defScope st) L f (.ref cda) cc) = (do
      let ov ← attributeBase (.Call (.Name "super" p0) [] [] p1) "__init__" (PySem.W.ksEnv qual (defScope st) L f (.ref cda) cc) (eval (.Call (.Name "super" p0) [] [] p1) (PySem.W.ksEnv qual (defScope st) L f (.ref cda) cc))
      standAt p2.atName
      let (g, first) ← holding [ov] (getMethod ov "__init__" pl)
      callWith p3 g first (backTo p3 (starEach [e] (PySem.W.ksEnv qual (defScope st) L f (.ref cda) cc))) [])) :
    FnOk P w K mg base CX 1 f fd ["self", fld] (spExI C fld) := by
  obtain ⟨qual, oc, kV, doc, pm, ct, ccl, cl, od, an, cdd, cld, osl, ccs, csl, vs5, file, tf, cc, cda, rfl, lk, hcd, hcode, hvs, hfile, hcell⟩ := I.ex
  refine exsup_ok (k := 0) T lk hcd hcode hvs hfile hcell I.ops I.nsup I.sin I.sub I.mro I.noN I.top hbody hp har hks hkc hka hkf hkind hco hgen (fun x hx => ?_) (fun x hx => ?_) hnd hdb hdc hmsg (fun L => hst qual L cda cc) (fun L => hms qual L cda cc)
  · exact of_decide_eq_true (List.all_eq_true.mp hnc x hx)
  · exact of_decide_eq_true (List.all_eq_true.mp hfr _ (PySem.mem_of_lookup hx)) rfl
theorem msg_ok2 {sc : Scope} {fld c : Str} {p1 p2 p3 p4 : Pos} {j : Nat} (hv : sc.names.lookup fld = some .local) (hd : (fld == ("__debug__" : Str)) = false) (hdc : (fld == ("__classdict__" : Str)) = false) (hc : c.length ≤ 1000) (X : Cx) (hN : X.N = [("self" : Str), fld]) (hs : X.env.scope = sc) :
    ∃ t, PE X (.JoinedStr [.Constant (.str c) j p1, .FormattedValue (.Name fld p2) (-1) none p3] p4) t ∧ ∀ (σ : L2.St) (n : Int) (H : Hp) (Q : VK), σ[1]? = some (some (.int n)) → n.natAbs.log2 < 1920 → (∀ z : Str, Q (.str z) H) → t σ H Q := by
  refine ⟨_, pe_joined (.cons pe_str (.cons (pe_fmt (pe_var (i := 1) (by rw [hN]; rfl) (.inl (by rw [hs]; exact hv)) hd hdc)) .nil)), fun σ n H Q h1 hn hq => ?_⟩
  have l1 := str_int_len hn
  refine ⟨c, rfl, ?_, ?_⟩
  · rw [Str.length_append, sizeLine_eq]
    show 0 + c.length ≤ _
    omega
  · refine ⟨_, h1, .inr ⟨n, rfl, hn, _, rfl, ?_, hq _⟩⟩
    rw [Str.length_append, Str.length_append, sizeLine_eq]
    show 0 + c.length + _ ≤ _
    omega
theorem msg_ok3 {sc : Scope} {fld c c2 : Str} {p1 p2 p3 p4 p5 : Pos} {j j2 : Nat} (hv : sc.names.lookup fld = some .local) (hd : (fld == ("__debug__" : Str)) = false) (hdc : (fld == ("__classdict__" : Str)) = false) (hc : c.length ≤ 1000) (hc2 : c2.length ≤ 1000) (X : Cx) (hN : X.N = [("self" : Str), fld]) (hs : X.env.scope = sc) :
    ∃ t, PE X (.JoinedStr [.Constant (.str c) j p1, .FormattedValue (.Name fld p2) (-1) none p3, .Constant (.str c2) j2 p5] p4) t ∧ ∀ (σ : L2.St) (n : Int) (H : Hp) (Q : VK), σ[1]? = some (some (.int n)) → n.natAbs.log2 < 1920 → (∀ z : Str, Q (.str z) H) → t σ H Q := by
  refine ⟨_, pe_joined (.cons pe_str (.cons (pe_fmt (pe_var (i := 1) (by rw [hN]; rfl) (.inl (by rw [hs]; exact hv)) hd hdc)) (.cons pe_str .nil))), fun σ n H Q h1 hn hq => ?_⟩
  have l1 := str_int_len hn
  refine ⟨c, rfl, ?_, ?_⟩
  · rw [Str.length_append, sizeLine_eq]
    show 0 + c.length ≤ _
    omega
  · refine ⟨_, h1, .inr ⟨n, rfl, hn, _, rfl, ?_, c2, rfl, ?_, hq _⟩⟩
    · rw [Str.length_append, Str.length_append, sizeLine_eq]
      show 0 + c.length + _ ≤ _
      omega
    · rw [Str.length_append, Str.length_append, Str.length_append, sizeLine_eq]
      show 0 + c.length + _ + _ ≤ _
      omega
end Rz

namespace Rz
open PySem PySem.Spec PyProof.Rows L2

/-! ### enumerate(text) -/
def Ites (x : Str) : It :=
  ⟨fun i _ => i < x.cps.size, fun i H v H' => ∃ T c, v = .ref T ∧ H T = none ∧ H' = upd H T (.tup [.int (i : Nat), .str ⟨#[c]⟩]) ∧ x.cps[i]? = some c, fun i _ => i = x.cps.size⟩
theorem turn_enumS {P : Program} {w : World} {K : PySem.W.Frag} {elts : List Expr} {kk : Nat} {tpos : Pos} (e it : Addr) (x : Str) (t : Tok) :
    Turn P w K (.Tuple elts kk tpos) (Ites x) [e, it] e (fun i h => (∃ old, IsEnum h e it ((i : Nat) : Int) old) ∧ h.IsStrIter it (strIterType x) x t i ∧ e ≠ it) where
  mem := by simp
  obj := fun i h st b hb => by
    obtain ⟨⟨old, he⟩, ⟨o, ho, hc, hd⟩, _⟩ := st
    have z2 : b = e ∨ b = it := by simpa using hb
    rcases z2 with rfl | rfl
    · exact ⟨_, he, fun v q => nomatch q⟩
    · exact ⟨o, ho, fun v q => by rw [hd] at q; cases q⟩
  keep := fun i h h' st k => by
    obtain ⟨⟨old, he⟩, ⟨o, ho, r⟩, hne⟩ := st
    exact ⟨⟨old, k e (by simp) _ he⟩, ⟨o, k it (by simp) _ ho, r⟩, hne⟩
  item := by
    intro X hP hw hK hc i pins s σ H E I hf st hg
    subst hP hw hK
    obtain ⟨⟨old, he⟩, hit, hne⟩ := st
    have hel : e < s.heap.objs.size := Heap.lt_size he
    have hil : it < s.heap.objs.size := by obtain ⟨_, q, _⟩ := hit; exact Heap.lt_size q
    have D := Draws.text (prog := X.prog) (w := X.w) (A := X.A.in1) (I.ok.hd hc) it x t
    refine wpAny_pyNext_enum_itemD D he hit hg hne (by simpa using hne) fun u h' tk hu ho hit2 hT hsz hk => ?_
    obtain ⟨c, tc, hcx, rfl⟩ := hu
    refine ⟨_, rfl, wpAny_letOwnedTupleGo_enum (s := { s with heap := h', toks := tk + 1 }) ho fun h2 he2 sb => ?_⟩
    have hT2 : h2.get? s.heap.objs.size = some { cls := .type "tuple", data := .seq #[.int i tk, .str ⟨#[c]⟩ tc] } := (sb.2 _ (Nat.ne_of_gt hel)).trans hT
    have new : ObjOk X.prog X.w (upd H s.heap.objs.size (.tup [.int (i : Nat), .str ⟨#[c]⟩])) h2 s.heap.objs.size (.tup [.int (i : Nat), .str ⟨#[c]⟩]) :=
      ⟨by show 2 ≤ sizeLine; decide, [.int i tk, .str ⟨#[c]⟩ tc], .cons ⟨_, rfl⟩ (.cons ⟨_, rfl⟩ .nil), ⟨_, hT2, rfl, _, rfl⟩⟩
    have J : Inv X pins σ (upd H s.heap.objs.size (.tup [.int (i : Nat), .str ⟨#[c]⟩])) { s with heap := h2, toks := tk + 1 } :=
      I.turnedNew (t' := tk + 1) (ch := [e, it]) (fun b ob hb q => (sb.2 b (fun z => hb (by simp [z]))).trans (hk b ob (fun z => hb (by simp [z])) (fun z => hb (by simp [z])) q)) hf (Nat.le_refl _) new
    obtain ⟨oi, e3, r3⟩ := hit2
    refine ⟨.ref s.heap.objs.size, _, J, rfl, ⟨_, c, rfl, I.hok.fresh (Nat.le_refl _), rfl, hcx⟩, ⟨⟨.str ⟨#[c]⟩ tc, ?_⟩, ⟨oi, (sb.2 it (Ne.symm hne)).trans e3, r3⟩, hne⟩, fun b hb => ?_⟩
    · have e1 : ((i + 1 : Nat) : Int) = (i : Int) + 1 := by omega
      rw [e1]
      exact he2
    · have hbl : b < s.heap.objs.size := by
        have z2 : b = e ∨ b = it := by simpa using hb
        rcases z2 with rfl | rfl
        · exact hel
        · exact hil
      rw [upd_ne (Nat.ne_of_lt hbl)]
      exact (hf b hb).1
  done := by
    intro X hP hw hK hc i pins s σ H E I hf st hg
    subst hP hw hK
    obtain ⟨⟨old, he⟩, hit, hne⟩ := st
    obtain ⟨f0, f1, f2, f3, f4, f5⟩ := hf it (by simp)
    have D := Draws.text (prog := X.prog) (w := X.w) (A := X.A.in1) (I.ok.hd hc) it x t
    have hg' : i = x.cps.size := hg
    subst hg'
    exact wpAny_pyNext_enum_endD D he hit fun h' eb => ⟨rfl, I.turned (t' := s.toks) (fun b o hb q => eb b o hb q) f0 f1 f3 f4 f5⟩
  self := fun A i s Q E st h => let ⟨⟨_, he⟩, _⟩ := st; wpAny_pyIter_enum he h
theorem walk_enumS {z : Str} : Walk (Ites z) z.cps.size (fun _ => True) (fun i H v H' => ∃ T c, v = .ref T ∧ H T = none ∧ H' = upd H T (.tup [.int (i : Nat), .str ⟨#[c]⟩]) ∧ z.cps.toList[i]? = some c) :=
  ⟨fun _ _ hi _ => hi, fun _ _ => rfl, fun i H x H' _ _ y => by
    obtain ⟨T, c, e1, e2, e3, e4⟩ := y
    exact ⟨T, c, e1, e2, e3, by rw [Array.getElem?_toList]; exact e4⟩⟩
def iEnumS (ta : TA) : TI := fun σ H R => ta σ H fun vs H1 => ∃ x, vs = [.str x] ∧ R (Ites x) H1
theorem pi_enumS {X : Cx} {e : Expr} {ta : TA} {p pos tpos : Pos} {elts : List Expr} {kk : Nat} (hg : Gl X "enumerate") (hm : X.mg "enumerate" = none) (ha : PA X [e] ta) (hs : starEach [e] X.env = [(false, eval e X.env)] := by rfl) :
    PI X (.Tuple elts kk tpos) (.Call (.Name "enumerate" p) [e] [] pos) (iEnumS ta) := by
  refine ⟨fun pins s σ H R I h => ?_⟩
  refine Call_ (ld_blt I hg hm boot_enumerate (PyProof.Rows.callWith_type1 (thn (ha.run pos pins s σ H _ I h) fun us s1 ⟨vs, H1, I1, r1, q1⟩ => ?_) hs rfl))
  obtain ⟨x, rfl, q⟩ := q1
  obtain ⟨u, rfl, ru⟩ := vals1 r1
  obtain ⟨t, rfl⟩ := ru
  refine call_enumerate_str fun h' he hit hsz hk => wpAny_pyIter_enum he ?_
  have J : Inv X pins σ H1 { s1 with heap := h' } := I1.kept (t' := s1.toks) hk
  refine ⟨s1.heap.objs.size + 1, [s1.heap.objs.size + 1, s1.heap.objs.size], _, _, H1, rfl, J, turn_enumS (s1.heap.objs.size + 1) s1.heap.objs.size x t, ⟨⟨.none, he⟩, hit, Nat.succ_ne_self _⟩, fun b hb => ?_, q⟩
  have hle : s1.heap.objs.size ≤ b := by
    have z2 : b = s1.heap.objs.size + 1 ∨ b = s1.heap.objs.size := by simpa using hb
    rcases z2 with rfl | rfl
    · exact Nat.le_add_right _ _
    · exact Nat.le_refl _
  exact I1.fpOk hle (I1.hok.fresh hle)
end Rz

namespace Rz
open PySem PySem.Spec PyProof.Rows L2

abbrev SuR := Addr → Value → Option Addr → TS
/-- a clause: its class, the slot of its name if it has one, its suite -/
abbrev Cls1 := Value × Option Nat × SuR
def endM (i : Option Nat) (D : Ends) : Ends := match i with
  | none => D
  | some i => { nx := fun σ H => D.nx (σ.set i none) H, rt := D.rt, bk := fun σ H => D.bk (σ.set i none) H, ct := fun σ H => D.ct (σ.set i none) H }
def stM (i : Option Nat) (a : Addr) (σ : L2.St) : L2.St := match i with
  | none => σ
  | some i => σ.set i (some (.ref a))
def wMix (K : PySem.W.Frag) (Wout : WX) (D : Ends) : List Cls1 → WX
  | [] => Wout
  | (c, i, ts) :: r => fun cls d σ H => ∃ b, PySem.W.exmOne K cls c = some b ∧ (b = true → ∀ a, H a = none → ts a cls d (endM i D) (stM i a σ) H) ∧ (b = false → wMix K Wout D r cls d σ H)
inductive HdsM (X : Cx) : List ExceptHandler → List Cls1 → Prop
  | nil : HdsM X [] []
  | plain {x : Str} {c : Value} {ts : SuR} {b0 : Stmt} {suite : List Stmt} {np p2 : Pos} {hds : List ExceptHandler} {l : List Cls1} (hc : Names X x c)
      (su : ∀ (a : Addr) (oe : Obj) (cls : Value) (d : Option Addr) (pn : List (Addr × Obj)), Zc cls d oe → (∃ vs, oe.data = .fields vs) → PSs (X.suite a ((a, oe) :: pn)) (b0 :: suite) (ts a cls d))
      (r : HdsM X hds l) : HdsM X (.ExceptHandler (some (.Name x np)) none (b0 :: suite) p2 :: hds) ((c, none, ts) :: l)
  | named {x n : Str} {i : Nat} {c : Value} {ts : SuR} {b0 : Stmt} {suite : List Stmt} {np p2 : Pos} {hds : List ExceptHandler} {l : List Cls1} (hN : X.N.Nodup) (hi : X.N[i]? = some n) (hl : X.env.kindOf n = some .local) (hc : Names X x c)
      (su : ∀ (a : Addr) (oe : Obj) (cls : Value) (d : Option Addr) (pn : List (Addr × Obj)), Zc cls d oe → (∃ vs, oe.data = .fields vs) → PSs (X.suite a ((a, oe) :: pn)) (b0 :: suite) (ts a cls d))
      (r : HdsM X hds l) : HdsM X (.ExceptHandler (some (.Name x np)) (some n) (b0 :: suite) p2 :: hds) ((c, some i, ts) :: l)
section
variable {X : Cx} {body : List Stmt} {h0 : ExceptHandler} {hds : List ExceptHandler} {l : List Cls1} {pos : Pos} {tb : WX → TS} {Wout : WX}
theorem ps_try_mix (hs : X.stack = X.env :: X.outer) (hf : X.env.frame = some X.env.locals) (tk : Takes X Wout)
    (hb : ∀ (W : WX) (pn : List (Addr × Obj)) (xe : Value → Shared → Prop), Takes (X.tr pn xe) W → PassesOwn (model X.prog X.w) X.A X.env xe → PSs (X.tr pn xe) body (tb W))
    (hh : HdsM X (h0 :: hds) l) : PS X (.Try body (h0 :: hds) [] [] pos) (fun D σ H => tb (wMix X.K Wout D l) D σ H) := by
  refine ⟨fun pins s σ H D I h => ?_⟩
  have ok := I.ok
  have fr0 : X.A.frames = some (X.env :: X.outer) := ok.frames.trans (by rw [hs])
  refine wpAny_Try_except ?_
  refine wpAny_mono ((hb (wMix X.K Wout D l) (X.pn ++ pins) (fun e sa => wpAny (model X.prog X.w) X.A (noteFrame e X.env) (fun _ sb => wpAny (model X.prog X.w) X.A (setFlight e none) (fun _ sc =>
    wpAny (model X.prog X.w) X.A (handleBy e X.env (h0 :: hds)) (SP X pins D) X.xe sc) X.xe sb) X.xe sa) (fun u s2 air => ?_) PassesOwn.looking).run [] s σ H D (I.toTry _) h) (fun f s1 hsp => ?_) (fun e s1 he => he)
  · obtain ⟨a, B, sI, pins2, σ2, H2, cls, d, rfl, J0, nb, up, sky, na, os, ag, w⟩ := air
    have J := J0.ofTry ok
    rw [hs] at sky
    show wpAny (model X.prog X.w) X.A (noteFrame (.ref a) X.env) _ _ _
    refine Sky.land Zc.steady fr0 hf sky fun g3 fl3 up3 => ?_
    have J3 : Inv X pins σ2 H2 { s2 with heap := g3 } := J.landed nb fl3.1 (up.trans up3) os ag
    obtain ⟨o3, vs3, e3, z3, d3⟩ := fl3.there
    have nfr : a ∉ frs (X.env :: X.outer) := fun hm => by
      obtain ⟨_, o', e', hnf⟩ := fl3.2.2.1.mem hm
      rw [e3] at e'
      cases e'
      exact hnf _ d3
    have nL : a ≠ X.env.locals := fun z => nfr (List.mem_filterMap.mpr ⟨X.env, List.mem_cons_self, by rw [hf, z]⟩)
    have nF : a ∉ X.fs := fun hm => by
      obtain ⟨e, he, q⟩ := List.mem_filterMap.mp hm
      exact nfr (List.mem_filterMap.mpr ⟨e, List.mem_cons_of_mem _ he, q⟩)
    have S3 := J3.suite e3 d3 na nL nF
    have look : ∀ {x : Str} {np : Pos} {c : Value} {Q : Value → Shared → Prop} {E : Value → Shared → Prop}, Names X x c → Q c { s2 with heap := g3 } → wpAny (model X.prog X.w) (X.A.mark (some (.ref a))) (eval (.Name x np) X.env) Q E { s2 with heap := g3 } := fun {x np c Q E} hc q => by
      obtain ⟨hg, hdbg, hm | ⟨hm, hv, hnn⟩⟩ := hc
      · exact ld_glob (X := X.suite a ((a, o3) :: (X.pn ++ pins))) S3 hg hm q hdbg
      · exact ld_blt (X := X.suite a ((a, o3) :: (X.pn ++ pins))) S3 hg hm hv q hnn hdbg
    have LT : PySem.W.Looks (model X.prog X.w) g3 (typeOf (.ref a)) cls := fun A Q E s k q => wpAny_typeOf_ref (k _ _ e3) (by rw [z3.1]; exact q)
    have go : ∀ {hds2 : List ExceptHandler} {l2 : List Cls1}, HdsM X hds2 l2 → wMix X.K Wout D l2 cls d σ2 H2 →
        wpAny (model X.prog X.w) X.A (handleBy (.ref a) X.env hds2) (SP X pins D) X.xe { s2 with heap := g3 } := by
      intro hds2 l2 hk
      induction hk with
      | nil =>
        intro w
        refine wpAny_handleBy_nil ?_
        obtain ⟨k1, k2, k3, oe, vs, T, oT, tr, he, hz, hd, h1, hr⟩ := id fl3
        unfold PySem.passOn
        refine wpAny_bind (wpAny_field he hd h1 ?_)
        rw [if_neg (show ¬ ((Value.ref T == Value.none) = true) from by simp)]
        have fin : wpAny (model X.prog X.w) X.A (setFlight (.ref a) X.env.frame) (fun _ s4 => wpAny (model X.prog X.w) X.A (throw (.ref a) : Sem Flow) (SP X pins D) X.xe s4) X.xe { s2 with heap := g3 } := by
          rw [hf]
          refine HandSPX.setFlight_upZ fl3 fun g4 hh4 up4 => wpAny_throw (tk _ _ ?_)
          exact ⟨a, B, sI, pins, σ2, H2, cls, d, rfl, J, nb, (up.trans up3).trans up4, .inr (.inr (by rw [hs]; exact hh4)), na, os, ag, w⟩
        first
          | exact wpAny_bind (wpAny_pure (wpAny_bind fin))
          | exact wpAny_bind fin
      | @plain x c ts b0 suite np p2 hds3 l3 hc su r ih =>
        intro w
        obtain ⟨b, hb1, hyes, hno⟩ := w
        refine wpAny_handleBy_cons (codeAny_handlers_test ?_) (by intro q; cases q)
        refine look hc ((PySem.W.exm_one (M := model X.prog X.w) J3.kIn LT hb1).here ?_)
        cases b with
        | true =>
          refine codeAny_handlers_suite ?_
          refine HandSPX.lands_againZ fl3 fun g4 fl4 up4 => ?_
          have J4 : Inv X pins σ2 H2 { s2 with heap := g4 } := J.landed nb fl4.1 ((up.trans up3).trans up4) os ag
          obtain ⟨o4, vs4, e4, z4, d4⟩ := fl4.there
          refine wpAny_mono ((su a o4 cls d (X.pn ++ pins) z4 ⟨_, d4⟩).run [] _ _ H2 _ (J4.suite e4 d4 na nL nF) (hyes rfl a na)) (fun f s6 hsp => ?_) (fun _ _ z => False.elim z)
          cases f with
          | next => obtain ⟨_, _, S6, q6⟩ := hsp; exact ⟨_, _, S6.unsuite ok, q6⟩
          | brk => obtain ⟨_, _, S6, q6⟩ := hsp; exact ⟨_, _, S6.unsuite ok, q6⟩
          | cont => obtain ⟨_, _, S6, q6⟩ := hsp; exact ⟨_, _, S6.unsuite ok, q6⟩
          | ret u => obtain ⟨_, _, _, S6, r6, q6⟩ := hsp; exact ⟨_, _, _, S6.unsuite ok, r6, q6⟩
        | false =>
          show wpAny _ X.A (handleBy (.ref a) X.env hds3) _ _ _
          exact ih (hno rfl)
      | @named x n i c ts b0 suite np p2 hds3 l3 hN hi hln hc su r ih =>
        intro w
        obtain ⟨b, hb1, hyes, hno⟩ := w
        refine wpAny_handleBy_cons (codeAny_handlers_test ?_) (by intro q; cases q)
        refine look hc ((PySem.W.exm_one (M := model X.prog X.w) J3.kIn LT hb1).here ?_)
        cases b with
        | true =>
          refine codeAny_handlers_suite_as ?_
          refine HandSPX.lands_againZ fl3 fun g4 fl4 up4 => ?_
          have J4 : Inv X pins σ2 H2 { s2 with heap := g4 } := J.landed nb fl4.1 ((up.trans up3).trans up4) os ag
          obtain ⟨o4, vs4, e4, z4, d4⟩ := fl4.there
          refine store_ok (X := X.suite a ((a, o4) :: (X.pn ++ pins))) (v := .ref a) (J4.suite e4 d4 na nL nF) hN hi (.inl hln) rfl (fun s5 S5 => ?_) (.inr hln)
          refine wpAny_mono ((su a o4 cls d (X.pn ++ pins) z4 ⟨_, d4⟩).run [] s5 _ H2 _ S5 (hyes rfl a na)) (fun f s6 hsp => ?_) (fun _ _ z => False.elim z)
          have away : ∀ {σ6 : L2.St} {H6 : Hp} {Q : Shared → Prop}, Inv (X.suite a ((a, o4) :: (X.pn ++ pins))) [] σ6 H6 s6 → (∀ s7, Inv X pins (σ6.set i none) H6 s7 → Q s7) →
              wpAny (model X.prog X.w) X.A (do bindName X.env n .none; unbindBehindTheSuite X.env n p2) (fun _ s7 => Q s7) X.xe s6 := fun {σ6 H6 Q} S6 hq => gone_ok (S6.unsuite ok) hN hi hln hq
          cases f with
          | next => obtain ⟨_, _, S6, q6⟩ := hsp; exact away S6 fun s7 J7 => ⟨_, _, J7, q6⟩
          | brk => obtain ⟨_, _, S6, q6⟩ := hsp; exact away S6 fun s7 J7 => ⟨_, _, J7, q6⟩
          | cont => obtain ⟨_, _, S6, q6⟩ := hsp; exact away S6 fun s7 J7 => ⟨_, _, J7, q6⟩
          | ret u => obtain ⟨_, _, _, S6, r6, q6⟩ := hsp; exact away S6 fun s7 J7 => ⟨_, _, _, J7, r6, q6⟩
        | false =>
          show wpAny _ X.A (handleBy (.ref a) X.env hds3) _ _ _
          exact ih (hno rfl)
    exact go hh w
  · cases f with
    | next => obtain ⟨_, _, S6, q6⟩ := hsp; exact wpAny_execs_nil ⟨_, _, S6.ofTry ok, q6⟩
    | brk => obtain ⟨_, _, S6, q6⟩ := hsp; exact ⟨_, _, S6.ofTry ok, q6⟩
    | cont => obtain ⟨_, _, S6, q6⟩ := hsp; exact ⟨_, _, S6.ofTry ok, q6⟩
    | ret u => obtain ⟨_, _, _, S6, r6, q6⟩ := hsp; exact ⟨_, _, _, S6.ofTry ok, r6, q6⟩
end
end Rz

namespace Rz
open PySem PySem.Spec PyProof.Rows L2
/-! ### calls whose exceptions are wished for at the caller's slots -/
abbrev EX := L2.St → XK
/-- nothing is let out -/
abbrev EN : EX := fun _ => E0
theorem atN {X : Cx} (σ : L2.St) : PassesAt (L2.CX X.prog X.w) X σ (EN σ) := fun _ _ _ _ _ _ h => by
  obtain ⟨_, _, _, _, _, _, _, _, _, _, _, _, z⟩ := h
  exact z.elim
section
variable {X : Cx} {CX : CXT} {k : Nat} {f C : Addr} {fd : FuncData} {ps : List Str} {sp : Sp} {dvs : List V} {ds : List Value} {E : EX} {x m : Str} {p pos apos : Pos} {e o : Expr} {es : List Expr} {ta : TE} {t : TA}
theorem run_X {pins : List (Addr × Obj)} {σ : L2.St} {H : Hp} {s : Shared} {Q : VK} {us : List Value} {vs : List V} {A : Around} (F : FnOk X.prog X.w X.K X.mg X.base CX k f fd ps sp) (hr : Room k A) (hfr : A.frames = X.A.frames) (hb : Binds X.K fd ps ds) (hd : Vals dvs ds) (hx : PassesAt CX X σ (E σ))
    (I : Inv X pins σ H s) (r : Vals vs us) (h : sp (vs ++ dvs) H Q (E σ)) : codeAny (model X.prog X.w) A (.call (.ref f) ⟨us, []⟩) (fun q s' => match q with
      | .ok (.ret u) => EP X pins σ Q u s'
      | .ok _ => False
      | .error er => X.xe er s') s := by
  have e0 : Env0 X.prog X.w X.K X.mg X.base A X.stack s H := by
    have z := I.env0
    exact ⟨by rw [hfr]; exact z.frames, z.mod, z.bs, z.bsz, z.funs, z.frf, z.hok, z.bare⟩
  have hz := F.len _ _ _ _ h
  rw [(r.append hd).length] at hz
  refine codeAny_mono (F.run A X.stack s H ⟨us, []⟩ (us ++ ds) (vs ++ dvs) Q (E σ) hr e0 (hb s us I.kIn hz) (r.append hd) h) fun q s' hq => ?_
  match q, hq with
  | .error er, hq => exact hx pins H s er s' I hq
  | .ok (.ret u), hq => exact I.after hq
  | .ok .next, hq => exact hq
  | .ok .brk, hq => exact hq
  | .ok .cont, hq => exact hq
theorem ended {pins : List (Addr × Obj)} {σ : L2.St} {Q : VK} {q : Result} {s' : Shared} (h : match q with
      | .ok (.ret u) => EP X pins σ Q u s'
      | .ok _ => False
      | .error er => X.xe er s') : wants (EP X pins σ Q) X.xe q s' := by
  match q, h with
  | .error er, h => exact h
  | .ok (.ret u), h => exact h
  | .ok .next, h => exact h.elim
  | .ok .brk, h => exact h.elim
  | .ok .cont, h => exact h.elim
theorem run_XC {pins : List (Addr × Obj)} {σ : L2.St} {H : Hp} {s : Shared} {Q : VK} {us : List Value} {vs : List V} (F : FnOk X.prog X.w X.K X.mg X.base CX k f fd ps sp) (hr : Room k X.A) (hb : Binds X.K fd ps ds) (hd : Vals dvs ds) (hx : PassesAt CX X σ (E σ))
    (I : Inv X pins σ H s) (r : Vals vs us) (h : sp (vs ++ dvs) H Q (E σ)) : wpAny (model X.prog X.w) X.A (call (.ref f) us) (EP X pins σ Q) X.xe s :=
  wpAny_call (codeAny_mono (run_X F hr rfl hb hd hx I r h) fun _ _ hq => ended hq)
/-- f(..) -/
def tFn (sp : Sp) (dvs : List V) (E : EX) (t : TA) : TE := fun σ H Q => t σ H fun vs H1 => sp (vs ++ dvs) H1 Q (E σ)
theorem pe_fn (F : FnOk X.prog X.w X.K X.mg X.base CX k f fd ps sp) (hr : Room k X.A) (hg : Gl X x) (hm : X.mg x = some (.ref f)) (hk : PySem.W.keepIn X.K (.ref f) = true) (hb : Binds X.K fd ps ds) (hd : Vals dvs ds) (hx : ∀ σ, PassesAt CX X σ (E σ))
    (ha : PA X (e :: es) t) (hdb : (x == ("__debug__" : Str)) = false := by decide) (he : starEach (e :: es) X.env = (false, eval e X.env) :: starEach es X.env := by rfl) (hpl : (backTo pos (starEach es X.env)).any (·.1) = false := by rfl) :
    PE X (.Call (.Name x p) (e :: es) [] pos) (tFn sp dvs E t) := ⟨fun pins s σ H Q I h =>
  wpAny_Call_Name_kw (ld_glob I hg hm (PySem.W.callWith_K (h₀ := X.base) I.ok.mod.kin hk (thn (ha.run pos pins s σ H _ I h) fun us s1 ⟨vs, H1, J, r, q⟩ => ⟨J.kIn, run_XC F hr hb hd (hx σ) J r q⟩) he hpl) hdb)⟩
theorem pe_fn0 (F : FnOk X.prog X.w X.K X.mg X.base CX k f fd ps sp) (hr : Room k X.A) (hg : Gl X x) (hm : X.mg x = some (.ref f)) (hk : PySem.W.keepIn X.K (.ref f) = true) (hb : Binds X.K fd ps ds) (hd : Vals dvs ds) (hx : ∀ σ, PassesAt CX X σ (E σ))
    (hdb : (x == ("__debug__" : Str)) = false := by decide) : PE X (.Call (.Name x p) [] [] pos) (tFn sp dvs E tNil) := ⟨fun pins s σ H Q I h =>
  wpAny_Call_Name_kw (ld_glob I hg hm (PySem.W.callWith_K0 I.kIn hk (run_XC (us := []) F hr hb hd (hx σ) I .nil h)) hdb)⟩
/-- o.m(..) -/
def tMt (C : Addr) (m : Str) (sp : Sp) (dvs : List V) (E : EX) (ta : TE) (t : TA) : TE := fun σ H Q => ta σ H fun x H1 => ∃ a dx fs, x = .ref a ∧ H1 a = some (.ins C dx fs) ∧ fs.lookup m = none ∧
  t σ H1 fun vs H2 => sp (x :: (vs ++ dvs)) H2 Q (E σ)
theorem pe_mt {pl : Sem Bool} (he : PE X o ta) (c : Cls X.K C) (hm : Meth X.K C m f) (F : FnOk X.prog X.w X.K X.mg X.base CX k f fd ps sp) (hr : Room k X.A) (hb : Binds X.K fd ps ds) (hd : Vals dvs ds) (hx : ∀ σ, PassesAt CX X σ (E σ)) (ha : PA X (e :: es) t)
    (hst : starEach (e :: es) X.env = (false, eval e X.env) :: starEach es X.env := by rfl) (hpl : (backTo pos (starEach es X.env)).any (·.1) = false := by rfl)
    (ht : eval (.Call (.Attribute o m apos) (e :: es) [] pos) X.env = (do
      let ov ← eval o X.env
      standAt apos.atName
      let (f, first) ← holding [ov] (getMethod ov m pl)
      callWith pos f first (backTo pos (starEach (e :: es) X.env)) (backToKw pos (keywordEach [] X.env))) := by rfl) :
    PE X (.Call (.Attribute o m apos) (e :: es) [] pos) (tMt C m sp dvs E ta t) := by
  refine ⟨fun pins s σ H Q I h => PySem.W.methodCall_KW (pl := pl) (thn (he.run pins s σ H _ I h) fun u s1 hh => ?_) ht⟩
  obtain ⟨x, H1, J, rx, a, dx, fs, rfl, ea, l, q⟩ := hh
  obtain rfl : u = Value.ref a := rx
  refine getmeth_ok J ea c hm l (PySem.W.callWith_K (first := [.ref a]) (h₀ := X.base) I.ok.mod.kin hm.kp (thn (ha.run pos pins s1 σ H1 _ J q) fun us s2 ⟨vs, H2, J2, r, q2⟩ => ⟨J2.kIn, ?_⟩) hst hpl)
  exact run_XC (us := .ref a :: us) (vs := .ref a :: vs) F hr hb hd (hx σ) J2 (.cons rfl r) q2
theorem pe_mt0 {pl : Sem Bool} (he : PE X o ta) (c : Cls X.K C) (hm : Meth X.K C m f) (F : FnOk X.prog X.w X.K X.mg X.base CX k f fd ps sp) (hr : Room k X.A) (hb : Binds X.K fd ps ds) (hd : Vals dvs ds) (hx : ∀ σ, PassesAt CX X σ (E σ))
    (ht : eval (.Call (.Attribute o m apos) [] [] pos) X.env = (do
      let ov ← eval o X.env
      standAt apos.atName
      let (f, first) ← holding [ov] (getMethod ov m pl)
      callWith pos f first (backTo pos (starEach [] X.env)) (backToKw pos (keywordEach [] X.env))) := by rfl) :
    PE X (.Call (.Attribute o m apos) [] [] pos) (tMt C m sp dvs E ta tNil) := by
  refine ⟨fun pins s σ H Q I h => PySem.W.methodCall_KW (pl := pl) (thn (he.run pins s σ H _ I h) fun u s1 hh => ?_) ht⟩
  obtain ⟨x, H1, J, rx, a, dx, fs, rfl, ea, l, q⟩ := hh
  obtain rfl : u = Value.ref a := rx
  refine getmeth_ok J ea c hm l (PySem.W.callWith_K0 (first := [.ref a]) J.kIn hm.kp ?_)
  exact run_XC (us := [.ref a]) (vs := [.ref a]) F hr hb hd (hx σ) J (.cons rfl .nil) q
/-- C(..): a new instance, then its __init__ -/
def tMk (C : Addr) (sp : Sp) (dvs : List V) (E : EX) (t : TA) : TE := fun σ H Q => t σ H fun vs H1 => ∀ x dx, H1 x = none → H1 dx = none → dx ≠ x →
  sp (.ref x :: (vs ++ dvs)) (upd (upd H1 dx (.own x)) x (.ins C dx [])) (fun v H2 => v = .non ∧ Q (.ref x) H2) (E σ)
theorem run_mk {pins : List (Addr × Obj)} {σ : L2.St} {H : Hp} {s : Shared} {Q : VK} {us : List Value} {vs : List V} (M : Mk X.K C f) (F : FnOk X.prog X.w X.K X.mg X.base CX k f fd ps sp) (hr : Room (k + 1) X.A) (hb : Binds X.K fd ps ds) (hd : Vals dvs ds)
    (hx : PassesAt CX X σ (E σ)) (I : Inv X pins σ H s) (r : Vals vs us)
    (h : ∀ x dx, H x = none → H dx = none → dx ≠ x → sp (.ref x :: (vs ++ dvs)) (upd (upd H dx (.own x)) x (.ins C dx [])) (fun v H2 => v = .non ∧ Q (.ref x) H2) (E σ)) :
    wpAny (model X.prog X.w) X.A (call (.ref C) us) (EP X pins σ Q) X.xe s := by
  have hq := h (s.heap.objs.size + 1) s.heap.objs.size (I.hok.fresh (Nat.le_succ _)) (I.hok.fresh (Nat.le_refl _)) (Nat.ne_of_lt (Nat.lt_succ_self _))
  have J := Inv.made (C := C) I
  refine wpAny_call (make_map (f := f) I.kIn M.makes M.init (beq_iff_eq.mp M.fn) (codeAny_mono (run_X (vs := .ref (s.heap.objs.size + 1) :: vs) (us := .ref (s.heap.objs.size + 1) :: us) F (hr.make C us []) ((J.env0.make C us []).frames.trans J.ok.frames.symm) hb hd hx J (.cons rfl r) hq) fun q s' hq' => ?_))
  match q, hq' with
  | .error er, hq' => exact hq'
  | .ok (.ret u), hq' =>
    obtain ⟨v, H2, J2, rv, ev, q3⟩ := hq'
    subst ev
    exact ⟨rv, ⟨V.ref (s.heap.objs.size + 1), H2, J2, rfl, q3⟩⟩
  | .ok .next, hq' => exact hq'.elim
  | .ok .brk, hq' => exact hq'.elim
  | .ok .cont, hq' => exact hq'.elim
theorem pe_mk (M : Mk X.K C f) (F : FnOk X.prog X.w X.K X.mg X.base CX k f fd ps sp) (hr : Room (k + 1) X.A) (hg : Gl X x) (hm : X.mg x = some (.ref C)) (hb : Binds X.K fd ps ds) (hd : Vals dvs ds) (hx : ∀ σ, PassesAt CX X σ (E σ))
    (ha : PA X (e :: es) t) (hdb : (x == ("__debug__" : Str)) = false := by decide) (he : starEach (e :: es) X.env = (false, eval e X.env) :: starEach es X.env := by rfl) (hpl : (backTo pos (starEach es X.env)).any (·.1) = false := by rfl) :
    PE X (.Call (.Name x p) (e :: es) [] pos) (tMk C sp dvs E t) := ⟨fun pins s σ H Q I h =>
  wpAny_Call_Name_kw (ld_glob I hg hm (PySem.W.callWith_K (h₀ := X.base) I.ok.mod.kin M.kp (thn (ha.run pos pins s σ H _ I h) fun us s1 ⟨vs, H1, J, r, q⟩ => ⟨J.kIn, run_mk M F hr hb hd (hx σ) J r q⟩) he hpl) hdb)⟩
theorem pe_mk0 (M : Mk X.K C f) (F : FnOk X.prog X.w X.K X.mg X.base CX k f fd ps sp) (hr : Room (k + 1) X.A) (hg : Gl X x) (hm : X.mg x = some (.ref C)) (hb : Binds X.K fd ps ds) (hd : Vals dvs ds) (hx : ∀ σ, PassesAt CX X σ (E σ))
    (hdb : (x == ("__debug__" : Str)) = false := by decide) : PE X (.Call (.Name x p) [] [] pos) (tMk C sp dvs E tNil) := ⟨fun pins s σ H Q I h =>
  wpAny_Call_Name_kw (ld_glob I hg hm (PySem.W.callWith_K0 I.kIn M.kp (run_mk (us := []) M F hr hb hd (hx σ) I .nil h)) hdb)⟩
/-- e.f, a property -/
def tPr (C : Addr) (sp : Sp) (E : EX) (ta : TE) : TE := fun σ H Q => ta σ H fun x H1 => ∃ a dx fs, x = .ref a ∧ H1 a = some (.ins C dx fs) ∧ sp [.ref a] H1 Q (E σ)
theorem pe_pr {p g : Addr} {fn : Str} (he : PE X e ta) (c : Cls X.K C) (hp : PropOf X.K C fn p g) (F : FnOk X.prog X.w X.K X.mg X.base CX k g fd ps sp) (hr : Room (k + 1) X.A) (hb : Binds X.K fd ps []) (hx : Passes CX X.nox E0)
    (hab : attributeBase e fn X.env (eval e X.env) = eval e X.env := by rfl) : PE X (.Attribute e fn pos) (tPr C sp EN ta) := by
  have z := pe_prop (pos := pos) he c hp F hr hb .nil hx hab
  exact z
end
/-- .. nothing leaves -/
theorem passN {X : Cx} : Passes (L2.CX X.prog X.w) X E0 := fun _ σ H s e s' I h => atN (X := X) σ [] H s e s' (I.pins_of (pins' := []) fun p hp => by cases hp) h
end Rz

namespace Rz
open PySem PySem.Spec PyProof.Rows L2
/-! ### short words -/
/-- all but what stands at D is as it was -/
def But (D : List Addr) (H H' : Hp) : Prop := ∀ b o, b ∉ D → H b = some o → H' b = some o
theorem But.refl (D : List Addr) (H : Hp) : But D H H := fun _ _ _ h => h
theorem But.trans {D : List Addr} {H H1 H2 : Hp} (a : But D H H1) (b : But D H1 H2) : But D H H2 := fun c o n h => b c o n (a c o n h)
theorem But.mono {D D' : List Addr} {H H' : Hp} (a : But D H H') (h : ∀ b ∈ D, b ∈ D') : But D' H H' := fun c o n e => a c o (fun z => n (h c z)) e
theorem But.of {D : List Addr} {H H' : Hp} (h : Same H H') : But D H H' := fun b o _ e => h b o e
theorem But.same {H H' : Hp} (h : But [] H H') : Same H H' := fun b o e => h b o (by simp) e
theorem But.at {D : List Addr} {H H' : Hp} {b : Addr} {o : HO} (h : But D H H') (e : H b = some o) (n : b ∉ D := by simp) : H' b = some o := h b o n e
theorem But.upd {D : List Addr} {H H' : Hp} {p : Addr} {o : HO} (h : But D H H') (hp : p ∈ D ∨ H p = none) : But D H (upd H' p o) := fun b u n e => by
  have nb : b ≠ p := fun z => by
    subst z
    rcases hp with hp | hp
    · exact n hp
    · rw [hp] at e; cases e
  rw [upd_ne nb]
  exact h b u n e
theorem Same.upd {H H' : Hp} {p : Addr} {o : HO} (h : Same H H') (hp : H p = none) : Same H (upd H' p o) := fun b u e => by
  have nb : b ≠ p := fun z => by
    subst z
    rw [hp] at e; cases e
  rw [upd_ne nb]
  exact h b u e
theorem Same.new {H H' : Hp} {p : Addr} {o : HO} (h : Same H H') (hp : H' p = none) : Same H (L2.upd H' p o) := Rz.Same.upd h (h.free hp)
theorem Same.seqT {K : PySem.W.Frag} {H H' : Hp} {a : Addr} {xs : List V} (e : Same H H') (h : SqT K H a xs) : SqT K H' a xs := by
  rcases h with (h | ⟨o, h⟩) | h
  · exact .inl (.inl (e _ _ h))
  · exact .inl (.inr ⟨o, e _ _ h⟩)
  · exact .inr h
theorem But.free {D : List Addr} {H H' : Hp} (e : But D H H') {l : Addr} (n : l ∉ D) (h : H' l = Option.none) : H l = Option.none := by
  cases q : H l with
  | none => rfl
  | some o => rw [e l o n q] at h; cases h
section
variable {P : Program} {w : World} {K : PySem.W.Frag} {mg : Str → Option Value} {base : Heap}
/-- a def that lets nothing out -/
theorem Fun.okN {x qual : Str} {st : Stmt} {f : Addr} {fd : FuncData} {N ps : List Str} {k : Nat} {sp : Sp} (F : Fun K x qual st f fd) (S : FnScope N ps (defScope st)) (len : ∀ vs H Q E, sp vs H Q E → vs.length = ps.length)
    (hb : ∀ (cdv : Value) (A : Around) (outer : List Env) (s : Shared) (H : Hp) (vs : List V) (Q : VK) (E : XK), Room k (A.deeper (envOfC qual (defScope st) s.heap.objs.size f cdv)) → sp vs H Q E →
      ∃ t, PSs (cxOf (L2.CX P w) P w K mg base N qual (defScope st) f cdv A outer s H E).nox (defBody st) t ∧ t { nx := fun _ H' => Q .non H', rt := Q } (start N vs) H) : FnOk P w K mg base (L2.CX P w) (k + 1) f fd ps sp :=
  F.okX S len fun cdv A outer s H vs Q E hr h => let ⟨t, h1, h2⟩ := hb cdv A outer s H vs Q E hr h; ⟨t, h1.nox, h2⟩
end
/-! ### the law's draws -/
def Dr (H : Hp) (d : Addr) : Prop := ∃ ns : List Int, H d = some (.lst (ns.map V.int)) ∧ ns.length ≤ 4000
theorem Dr.same {H H' : Hp} {d : Addr} (h : Dr H d) (e : Same H H') : Dr H' d := let ⟨ns, h1, h2⟩ := h; ⟨ns, e _ _ h1, h2⟩
theorem mapi_get {ns : List Int} {i : Nat} {y : V} (h : (ns.map V.int)[i]? = some y) : ∃ u, ns[i]? = some u ∧ y = .int u := by
  rw [List.getElem?_map] at h
  cases e : ns[i]? with
  | none => rw [e] at h; cases h
  | some u => rw [e] at h; exact ⟨u, rfl, (Option.some.inj h).symm⟩
theorem no_cx : ∀ {P : Program} (w : World) (H : Hp) (s : Shared) (e : Value) (s' : Shared), L2.CX P w [] H s (fun _ _ _ => False) e s' → False := fun _ _ _ _ _ h => by
  obtain ⟨_, _, _, _, _, _, _, _, _, _, _, _, z⟩ := h
  exact z
end Rz
namespace Rz
open PySem PySem.Spec PyProof.Rows L2
theorem joinL_nil : ∀ ps : List (List Nat), TL.joinL [] ps = ps.flatten
  | [] => rfl
  | [p] => by simp [TL.joinL]
  | p :: q :: r => by
    have ih := joinL_nil (q :: r)
    show p ++ ([] ++ TL.joinL [] (q :: r)) = _
    rw [ih]
    simp
theorem join0 (ys : List Str) : (Txt.join "" ys).cps.toList = (ys.map fun y => y.cps.toList).flatten := by
  rw [TL.join_eq]
  exact (TL.tl_join "" ys).trans (joinL_nil _)
theorem join0_len (ys : List Str) : (Txt.join "" ys).length = (ys.map fun y => y.length).sum := by
  have h := congrArg List.length (join0 ys)
  rw [List.length_flatten, List.map_map] at h
  exact h
/-- every sign of x is one of z -/
def Over (z x : Str) : Prop := ∀ c ∈ x.cps.toList, c ∈ z.cps.toList
theorem over_join {z : Str} {ys : List Str} (h : ∀ y ∈ ys, Over z y) : Over z (Txt.join "" ys) := fun c hc => by
  rw [join0, List.mem_flatten] at hc
  obtain ⟨l, hl, hc⟩ := hc
  obtain ⟨y, hy, rfl⟩ := List.mem_map.mp hl
  exact h y hy c hc
theorem sum_ones : ∀ {ys : List Str}, (∀ y ∈ ys, y.length = 1) → (ys.map fun y => y.length).sum = ys.length
  | [], _ => rfl
  | y :: r, h => by
    rw [List.map_cons, List.sum_cons, sum_ones (ys := r) fun z hz => h z (List.mem_cons_of_mem _ hz), h y List.mem_cons_self, List.length_cons]
    omega
theorem atI_in {α : Type} {xs : List α} {r : Int} (h0 : 0 ≤ r) (h1 : r < xs.length) : ∃ v, v ∈ xs ∧ atI xs r = some v := by
  obtain ⟨n, rfl⟩ := Int.eq_ofNat_of_zero_le h0
  have hn : n < xs.length := by omega
  exact ⟨xs[n], List.getElem_mem hn, atI_nat (List.getElem?_eq_getElem hn)⟩
theorem yesT {σ : L2.St} {H : Hp} {A B : Hp → Prop} (h : A H) : tYes σ H fun b H3 => if b = true then A H3 else B H3 := by
  show (if true = true then A H else B H)
  rw [if_pos rfl]
  exact h
theorem len_list (z : Str) : z.cps.toList.length = z.length := rfl
end Rz
namespace Rz
open PySem PySem.Spec PyProof.Rows L2
/-! ### signs -/
def abc : Str := "abcdefghijklmnopqrstuvwxyz"
def oddC (c : Nat) : Bool := !decide (c ∈ abc.cps.toList)
/-- the place of the first character that is no sign -/
def fo (z : Str) : Option Nat := z.cps.toList.findIdx? oddC
def foI (z : Str) : Int := match fo z with
  | some i => (i : Int)
  | none => -1
theorem fo_some {z : Str} {i : Nat} {c : Nat} (h : z.cps.toList[i]? = some c) (ho : oddC c = true) (hb : ∀ (j c : Nat), j < i → z.cps.toList[j]? = some c → oddC c = false) : fo z = some i := by
  obtain ⟨hi, hc⟩ := List.getElem?_eq_some_iff.mp h
  refine List.findIdx?_eq_some_iff_getElem.mpr ⟨hi, by rw [hc]; exact ho, fun j hj => ?_⟩
  have e := hb j _ hj (List.getElem?_eq_getElem (Nat.lt_trans hj hi))
  rw [e]
  exact Bool.false_ne_true
theorem fo_none {z : Str} (h : ∀ (j c : Nat), z.cps.toList[j]? = some c → oddC c = false) : fo z = none :=
  List.findIdx?_eq_none_iff.mpr fun c hc => by
    obtain ⟨j, hj, e⟩ := List.getElem_of_mem hc
    exact h j c (by rw [List.getElem?_eq_getElem hj, e])
theorem fo_lt {z : Str} {i : Nat} (h : fo z = some i) : i < z.length := by
  obtain ⟨hi, _⟩ := List.findIdx?_eq_some_iff_getElem.mp h
  exact hi
theorem log_small {n : Int} {k : Nat} (h : n.natAbs < 2 ^ k) (hk : k ≤ 1919) : n.natAbs.log2 < 1920 := by
  by_cases h0 : n.natAbs = 0
  · rw [h0]
    decide
  · exact Nat.lt_of_lt_of_le ((Nat.log2_lt h0).mpr h) (by omega)
theorem log_nat {i : Nat} (h : i < 2 ^ 64) : (i : Int).natAbs.log2 < 1920 := log_small (k := 64) (by simpa using h) (by decide)
end Rz
namespace Rz
open PySem PySem.Spec PyProof.Rows L2
/-- what is asked where such an exception is made, and what is known then -/
theorem raise_fld {C : Addr} {fld : Str} {n : Int} {H1 : Hp} {Q : XK} (hn : n.natAbs.log2 < 1920) (q : ∀ H' d, Same H1 H' → H1 d = none → H' d = some (.xd [(fld, .int n)]) → Q (.ref C) (some d) H') :
    ∀ a, H1 a = none → spExI C fld (.ref a :: ([V.int n] ++ [])) (upd H1 a (exo a C none))
      (fun v H2 => v = .non ∧ ∃ (d : Addr) (fs : List (Str × V)), H2 a = some (exo a C (some d)) ∧ H2 d = some (exd d fs) ∧ H1 d = none ∧ Q (.ref C) (some d) (upd (del H2 a) d (.xd fs))) (fun _ _ _ => False) := fun a ha => by
  refine ⟨a, n, rfl, hn, upd_same, fun dx hdx nda => ⟨rfl, dx, [(fld, .int n)], by rw [upd_same], ?_, ?_, ?_⟩⟩
  · rw [upd_ne nda, upd_same]
  · rw [upd_ne nda] at hdx
    exact hdx
  · have hd1 : H1 dx = none := by
      rw [upd_ne nda] at hdx
      exact hdx
    refine q _ dx (fun b o e => ?_) hd1 upd_same
    have nba : b ≠ a := ne_of_none e ha
    have nbd : b ≠ dx := ne_of_none e hd1
    rw [upd_ne nbd, del_ne nba, upd_ne nba, upd_ne nbd, upd_ne nba]
    exact e
end Rz

namespace Rz
open PySem PySem.Spec PyProof.Rows L2
/-! ### data: lists of ints -/
abbrev dInts (ns : List Int) : PyData := .list (ns.map PyData.int)
theorem all_ints_lay : ∀ ns : List Int, PyData.canLayAll0 (ns.map PyData.int) = true
  | [] => rfl
  | n :: ns => by simp only [List.map_cons, PyData.canLayAll0, PyData.canLay0, all_ints_lay ns, Bool.and_self]
theorem all_ints_depth : ∀ ns : List Int, PyData.depthAll (ns.map PyData.int) = 0
  | [] => rfl
  | n :: ns => by simp only [List.map_cons, PyData.depthAll, PyData.depth, all_ints_depth ns, Nat.max_self]
theorem ints_shaped (ns : List Int) : SeqAt.shaped (dInts ns) = true := by
  have h : PyData.depth (dInts ns) ≤ 64 := by
    show PyData.depthAll (ns.map PyData.int) + 1 ≤ 64
    rw [all_ints_depth]
    decide
  show (PyData.canLayAll0 (ns.map PyData.int) && decide (PyData.depth (dInts ns) ≤ 64)) = true
  rw [all_ints_lay, decide_eq_true h]
  rfl
theorem ints_eqvA : ∀ a b : List Int, PyData.eqvAll (a.map PyData.int) (b.map PyData.int) = decide (a = b)
  | [], [] => rfl
  | [], _ :: _ => by simp [PyData.eqvAll]
  | _ :: _, [] => by simp [PyData.eqvAll]
  | x :: xs, y :: ys => by
    rw [List.map_cons, List.map_cons, PyData.eqvAll, ints_eqvA xs ys]
    show ((x == y) && decide (xs = ys)) = _
    by_cases h : x = y
    · subst h; simp
    · simp [h]
theorem ints_eqv (a b : List Int) : PyData.eqv (dInts a) (dInts b) = decide (a = b) := by
  show PyData.eqvAll _ _ = _
  exact ints_eqvA a b
theorem dp_intsA {K : PySem.W.Frag} {H : Hp} : ∀ ns : List Int, DpAll K H (ns.map V.int) (ns.map PyData.int)
  | [] => .nil
  | n :: ns => .cons (.int n) (dp_intsA ns)
theorem dp_ints {K : PySem.W.Frag} {H : Hp} {a : Addr} {ns : List Int} (h : SqL K H a (ns.map V.int)) : Dp K H (.ref a) (dInts ns) := .lst h (dp_intsA ns)
end Rz

namespace Rz
open PySem PySem.Spec PyProof.Rows L2
/-! ### the class's own special methods -/
section
variable {X : Cx} {k : Nat} {f C a dx : Addr} {fs : List (Str × V)} {fd : FuncData} {ps : List Str} {sp : Sp} {pins : List (Addr × Obj)} {σ : L2.St} {H : Hp} {s : Shared}
/-- the instance as the library's rules want it -/
theorem inst_at (I : Inv X pins σ H s) (e : H a = some (.ins C dx fs)) : ∃ od, PySem.W.InstAt s.heap a (PySem.W.instObj C dx) C (some od) := by
  obtain ⟨mA, O, _⟩ := ins_get I.hok e
  obtain ⟨od, J, _⟩ := O.look
  exact ⟨od, J⟩
/-- the def called somewhere below the running body, nothing leaves it -/
theorem run_below {Q : VK} {us : List Value} {vs : List V} {A : Around} {E' : Value → Shared → Prop} (F : FnOk X.prog X.w X.K X.mg X.base (L2.CX X.prog X.w) k f fd ps sp) (hr : Room k A) (hfr : A.frames = X.A.frames) (hb : Binds X.K fd ps [])
    (I : Inv X pins σ H s) (r : Vals vs us) (h : sp vs H Q E0) : wpAny (model X.prog X.w) A (call (.ref f) us) (EP X pins σ Q) E' s := by
  have z := run_X (E := EN) (X := X.nox) (A := A) (pins := pins) (σ := σ) (Q := Q) F hr hfr hb .nil (atN (X := X.nox) σ) (I.wish _) r (by rw [List.append_nil]; exact h)
  refine wpAny_call (codeAny_mono z fun q s' hq => ?_)
  match q, hq with
  | .error er, hq => exact hq.elim
  | .ok (.ret u), hq =>
    obtain ⟨v, H', J, rv, q⟩ := hq
    exact ⟨v, H', J.unwish, rv, q⟩
  | .ok .next, hq => exact hq.elim
  | .ok .brk, hq => exact hq.elim
  | .ok .cont, hq => exact hq.elim
/-- str(x) by the own __str__ -/
theorem call_strO (M : Meth X.K C "__str__" f) (F : FnOk X.prog X.w X.K X.mg X.base (L2.CX X.prog X.w) k f fd ps sp) (hr : Room (k + 2) X.A) (hb : Binds X.K fd ps []) :
    CallR X (.type "str") (fun xs H Q => ∃ a dx fs, xs = [.ref a] ∧ H a = some (.ins C dx fs) ∧ sp [.ref a] H (fun v H' => (∃ z, v = .str z) ∧ Q v H') E0) := by
  intro pins s σ H xs us Q I r h
  obtain ⟨a, dx, fs, rfl, ea, hq⟩ := h
  obtain ⟨u, rfl, ru⟩ := vals1 r
  obtain rfl : u = Value.ref a := ru
  obtain ⟨od, J⟩ := inst_at I ea
  refine PySem.W.kso_call hr.in1.in1.units0 I.kIn J M.at_ M.fn (wpAny_mono (run_below (vs := [.ref a]) F hr.in1.in1 rfl hb I (.cons rfl .nil) hq) (fun v s' hv => ?_) fun _ _ z => z)
  obtain ⟨x, H', J', rx, ⟨z, rfl⟩, q⟩ := hv
  obtain ⟨t, rfl⟩ := rx
  show EP X pins σ Q _ _
  exact ⟨.str z, H', J', ⟨t, rfl⟩, q⟩
end
end Rz

namespace Rz
open PySem PySem.Spec PyProof.Rows L2
open Sem (wp)
/-! ### list(zip(text, list)) -/
theorem zip_nolen : typeLookup (.type "zip") "__len__" = pure Option.none := am_miss_of_fast (by decide +kernel)
theorem zip_nohint : typeLookup (.type "zip") "__length_hint__" = pure Option.none := am_miss_of_fast (by decide +kernel)
section
variable {prog : Program} {w : World} {A : Around} {E : Value → Shared → Prop} {s : Shared} {zz TI TO T i1 i2 L : Addr} {f1 f2 : List Addr} {n1 n2 i n : Nat} {P1 P2 : Nat → Value → Prop} {S1 S2 : Nat → Heap → Prop} {fl : Bool} {oT : Obj}

/-- next of a zip whose tuple is still out -/
theorem zh_item {Q : Value → Shared → Prop} (Z : ZipSep2 zz TI TO i1 i2 f1 f2) (D1 : Draws prog w A i1 f1 n1 P1 S1) (D2 : Draws prog w A i2 f2 n2 P2 S2)
    (gz : IsZipHeld s.heap zz TI TO T fl) (gT : s.heap.get? T = some oT) (gI : IsTupOf2 s.heap TI (.ref i1) (.ref i2)) (t1 : S1 i s.heap) (t2 : S2 i s.heap) (l1 : i < n1) (l2 : i < n2)
    (hQ : ∀ x y h' tk, P1 i x → P2 i y → IsZipHeld h' zz TI TO T true → S1 (i + 1) h' → S2 (i + 1) h' → IsTupOf2 h' s.heap.objs.size x y → h'.objs.size = s.heap.objs.size + 1 →
      (∀ c o, c ≠ zz → c ≠ i1 → c ≠ i2 → s.heap.get? c = some o → h'.get? c = some o) → Q (.ref s.heap.objs.size) { s with heap := h', toks := tk }) :
    wpAny (model prog w) A (Builtin.«zip.__next__» ⟨[.ref zz], []⟩) (fun fin s' => ∃ v, fin = .done (.ret v) ∧ Q v s') E s := by
  obtain ⟨hp, g, d, tk0, os⟩ := s
  show wpAny _ _ (field (.ref zz) 2 >>= _) _ _ _
  refine wpAny_bind (wpAny_field gz rfl (x := .bool false) rfl ?_)
  show wpAny _ _ (field (.ref zz) 3 >>= _) _ _ _
  refine wpAny_bind (wpAny_field gz rfl (x := .ref TI) rfl ?_)
  refine wpAny_bind (wpAny_seqItems gI rfl ?_)
  show wpAny _ _ (Builtin.SmallTypes.ownedTupleIsFree (.ref zz) >>= _) _ _ _
  refine wpAny_bind (wpAny_tupleHeld_zip gz gT fun h1 gz1 s1 => ?_)
  simp only [Bool.false_eq_true, if_false]
  refine wpAny_bind ?_
  rw [← Array.forIn_toList]
  simp only [List.forIn_cons, List.forIn_nil]
  refine wpAny_bind (wpAny_bind (wpAny_holding ?_))
  show wpAny _ _ (Builtin.SmallTypes.nextOf (.ref i1) >>= _) _ _ ⟨h1, g, d, tk0, os⟩
  refine wpAny_bind (D1.item i _ _ _ l1 (D1.over t1 s1 Z.zf1) fun x h2 tk1 px u1 s2 => wpAny_pure (wpAny_pure ?_))
  replace s2 : Heap.SameBut i1 h1 h2 := s2
  refine wpAny_bind (wpAny_bind (wpAny_holding ?_))
  show wpAny _ _ (Builtin.SmallTypes.nextOf (.ref i2) >>= _) _ _ ⟨h2, g, d, tk1, os⟩
  refine wpAny_bind (D2.item i _ _ _ l2 (D2.over (D2.over t2 s1 Z.zf2) s2 Z.sep1_2) fun y h3 tk2 py u2 s3 => wpAny_pure (wpAny_pure (wpAny_pure ?_)))
  replace s3 : Heap.SameBut i2 h2 h3 := s3
  show wpAny _ _ (newTuple [x, y] >>= _) _ _ ⟨h3, g, d, tk2, os⟩
  refine wpAny_bind (wpAny_newTuple ?_)
  have size3 : h3.objs.size = hp.objs.size := by rw [s3.1, s2.1, s1.1]
  have gz3 : IsZipHeld h3 zz TI TO T true := s3.extBut _ _ Z.zi2 (s2.extBut _ _ Z.zi1 gz1)
  have kk : ∀ c o, c ≠ zz → c ≠ i1 → c ≠ i2 → hp.get? c = some o → h3.get? c = some o := fun c o c1 c2 c3 e => s3.extBut _ _ c3 (s2.extBut _ _ c2 (s1.extBut _ _ c1 e))
  refine wpAny_pure ⟨_, rfl, ?_⟩
  show Q (.ref h3.objs.size) ⟨h3.push { cls := .type "tuple", data := .seq #[x, y] }, g, d, tk2, os⟩
  have new : IsTupOf2 (h3.push { cls := .type "tuple", data := .seq #[x, y] }) h3.objs.size x y := Heap.get?_push_size _ rfl
  have size4 : (h3.push { cls := .type "tuple", data := .seq #[x, y] }).objs.size = h3.objs.size + 1 := Heap.size_push ..
  rw [size3] at new size4 ⊢
  exact hQ x y _ tk2 px py (Heap.get?_push_of_some _ gz3) (D1.frame _ _ _ (D1.over u1 s3 Z.sep2_1) fun b _ o e => Heap.get?_push_of_some _ e) (D2.frame _ _ _ u2 fun b _ o e => Heap.get?_push_of_some _ e) new size4 fun c o c1 c2 c3 e => Heap.get?_push_of_some _ (kk c o c1 c2 c3 e)

theorem zh_end {Q : Fin → Shared → Prop} (Z : ZipSep2 zz TI TO i1 i2 f1 f2) (D1 : Draws prog w A i1 f1 n1 P1 S1) (D2 : Draws prog w A i2 f2 n2 P2 S2)
    (gz : IsZipHeld s.heap zz TI TO T fl) (gT : s.heap.get? T = some oT) (gI : IsTupOf2 s.heap TI (.ref i1) (.ref i2)) (t1 : S1 i s.heap) (t2 : S2 i s.heap) (hn1 : i = n1) 
    (hE : ∀ h' tk e, (∀ c o, c ≠ zz → c ≠ i1 → c ≠ i2 → s.heap.get? c = some o → h'.get? c = some o) → (∃ o, h'.get? e = some o ∧ o.cls = .type "StopIteration") → E (.ref e) { s with heap := h', toks := tk }) :
    wpAny (model prog w) A (Builtin.«zip.__next__» ⟨[.ref zz], []⟩) Q E s := by
  obtain ⟨hp, g, d, tk0, os⟩ := s
  show wpAny _ _ (field (.ref zz) 2 >>= _) _ _ _
  refine wpAny_bind (wpAny_field gz rfl (x := .bool false) rfl ?_)
  show wpAny _ _ (field (.ref zz) 3 >>= _) _ _ _
  refine wpAny_bind (wpAny_field gz rfl (x := .ref TI) rfl ?_)
  refine wpAny_bind (wpAny_seqItems gI rfl ?_)
  show wpAny _ _ (Builtin.SmallTypes.ownedTupleIsFree (.ref zz) >>= _) _ _ _
  refine wpAny_bind (wpAny_tupleHeld_zip gz gT fun h1 gz1 s1 => ?_)
  simp only [Bool.false_eq_true, if_false]
  refine wpAny_bind ?_
  rw [← Array.forIn_toList]
  simp only [List.forIn_cons, List.forIn_nil]
  refine wpAny_bind (wpAny_bind (wpAny_holding ?_))
  show wpAny _ _ (Builtin.SmallTypes.nextOf (.ref i1) >>= _) _ _ ⟨h1, g, d, tk0, os⟩
  subst hn1
  refine wpAny_bind (D1.done ⟨h1, g, d, tk0, os⟩ _ _ (D1.over t1 s1 Z.zf1) fun q e hq he => ?_)
  exact hE q tk0 e (fun c o c1 c2 _ x => hq _ _ c2 (s1.extBut _ _ c1 x)) he

/-- such a zip while a list at L is filled from it -/
def ZS (zz TI TO i1 i2 L : Addr) (S1 S2 : Nat → Heap → Prop) (i : Nat) (h : Heap) : Prop := IsTupOf2 h TI (.ref i1) (.ref i2) ∧ S1 i h ∧ S2 i h ∧
  ((IsZip h zz TI TO .none ∧ ∃ a b, IsTupOf2 h TO a b) ∨ ∃ T f o, IsZipHeld h zz TI TO T f ∧ h.get? T = some o ∧ T ≠ zz ∧ T ≠ i1 ∧ T ≠ i2 ∧ T ≠ L)
theorem zs_item {Q : Option Value → Shared → Prop} (Z : ZipSep2 zz TI TO i1 i2 f1 f2) (D1 : Draws prog w A.in1 i1 f1 n1 P1 S1) (D2 : Draws prog w A.in1 i2 f2 n2 P2 S2)
    (st : ZS zz TI TO i1 i2 L S1 S2 i s.heap) (hL : L < s.heap.objs.size) (l1 : i < n1) (l2 : i < n2)
    (hQ : ∀ x y h' tk, P1 i x → P2 i y → ZS zz TI TO i1 i2 L S1 S2 (i + 1) h' → IsTupOf2 h' s.heap.objs.size x y → h'.objs.size = s.heap.objs.size + 1 →
      (∀ c o, c ≠ zz → c ≠ TO → c ≠ i1 → c ≠ i2 → s.heap.get? c = some o → h'.get? c = some o) → Q (some (.ref s.heap.objs.size)) { s with heap := h', toks := tk }) :
    wpAny (model prog w) A (pyNext (.ref zz)) Q E s := by
  obtain ⟨gI, t1, t2, st⟩ := st
  have o1 : s.heap.objs.size ≠ i1 := let ⟨_, e⟩ := D1.live _ _ t1; Nat.ne_of_gt (Heap.lt_size e)
  have o2 : s.heap.objs.size ≠ i2 := let ⟨_, e⟩ := D2.live _ _ t2; Nat.ne_of_gt (Heap.lt_size e)
  rcases st with ⟨gz, a, b, gO⟩ | ⟨T, f, o, gz, gT, r1, r2, r3, r4⟩
  · refine wpAny_pyNext_zipD2_item Z D1 D2 gz gI gO t1 t2 l1 l2 fun x y h' tk px py b1 b2 u1 u2 new sz kk => ?_
    exact hQ x y h' tk px py ⟨kk _ _ Z.TIz Z.TITO Z.TIi1 Z.TIi2 gI, u1, u2, .inr ⟨_, false, _, b1, new, Nat.ne_of_gt (Heap.lt_size gz), o1, o2, Nat.ne_of_gt hL⟩⟩ new sz kk
  · have ty : s.TypeIs (.ref zz) "zip" := ⟨_, gz, rfl⟩
    unfold pyNext
    exact wpAny_bind (wpAny_attempt (wpAny_callSpecial?_slot (name := Str.ofString "__next__") ty F.slot_zip_next (wpAny_call_entry F.slot_zip_next ty F.entry_zip_next
      (zh_item Z D1 D2 gz gT gI t1 t2 l1 l2 fun x y h' tk px py b1 u1 u2 new sz kk => wpAny_pure
        (hQ x y h' tk px py ⟨kk _ _ Z.TIz Z.TIi1 Z.TIi2 gI, u1, u2, .inr ⟨T, true, o, b1, kk _ _ r1 r2 r3 gT, r1, r2, r3, r4⟩⟩ new sz fun c o c1 _ c3 c4 e => kk c o c1 c3 c4 e)) (F.args_zip_next_1 _))))
theorem zs_end {Q : Option Value → Shared → Prop} (Z : ZipSep2 zz TI TO i1 i2 f1 f2) (D1 : Draws prog w A.in1 i1 f1 n1 P1 S1) (D2 : Draws prog w A.in1 i2 f2 n2 P2 S2)
    (st : ZS zz TI TO i1 i2 L S1 S2 i s.heap) (hn : i = n1) (h12 : n1 ≤ n2)
    (hQ : ∀ h' tk, (∀ c o, c ≠ zz → c ≠ TO → c ≠ i1 → c ≠ i2 → s.heap.get? c = some o → h'.get? c = some o) → Q Option.none { s with heap := h', toks := tk }) : wpAny (model prog w) A (pyNext (.ref zz)) Q E s := by
  obtain ⟨gI, t1, t2, st⟩ := st
  rcases st with ⟨gz, a, b, gO⟩ | ⟨T, f, o, gz, gT, r1, r2, r3, r4⟩
  · exact wpAny_pyNext_zipD2_end Z D1 D2 gz gI gO t1 t2 (by omega) (by omega) (.inl hn) fun h' tk kk => hQ h' tk kk
  · have ty : s.TypeIs (.ref zz) "zip" := ⟨_, gz, rfl⟩
    unfold pyNext
    refine wpAny_bind (wpAny_attempt (wpAny_callSpecial?_slot (name := Str.ofString "__next__") ty F.slot_zip_next (wpAny_call_entry F.slot_zip_next ty F.entry_zip_next
      (zh_end Z D1 D2 gz gT gI t1 t2 hn fun h' tk e kk he => ?_) (F.args_zip_next_1 _))))
    obtain ⟨oe, h1, h2⟩ := he
    refine wpAny_bind (wpAny_isInstance (T := "StopIteration") (b := true) ⟨oe, h1, h2⟩ isSubtype_stop ?_)
    exact wpAny_pure (hQ _ _ fun c o c1 _ c3 c4 e => kk c o c1 c3 c4 e)
theorem ZS.keep {h h' : Heap} (st : ZS zz TI TO i1 i2 L S1 S2 i h) (D1 : Draws prog w A i1 f1 n1 P1 S1) (D2 : Draws prog w A i2 f2 n2 P2 S2) (kk : ∀ b o, b ≠ L → h.get? b = some o → h'.get? b = some o) (n0 : zz ≠ L) (nI : TI ≠ L) (nO : TO ≠ L) (nf1 : L ∉ f1) (nf2 : L ∉ f2) :
    ZS zz TI TO i1 i2 L S1 S2 i h' := by
  obtain ⟨gI, t1, t2, st⟩ := st
  refine ⟨kk _ _ nI gI, D1.frame _ _ _ t1 fun b hb o e => kk b o (fun z => nf1 (z ▸ hb)) e, D2.frame _ _ _ t2 fun b hb o e => kk b o (fun z => nf2 (z ▸ hb)) e, ?_⟩
  rcases st with ⟨gz, a, b, gO⟩ | ⟨T, f, o, gz, gT, r1, r2, r3, r4⟩
  · exact .inl ⟨kk _ _ n0 gz, a, b, kk _ _ nO gO⟩
  · exact .inr ⟨T, f, o, kk _ _ n0 gz, kk _ _ r4 gT, r1, r2, r3, r4⟩

/-- the tuples that came -/
structure ZG (P1 P2 : Nat → Value → Prop) (lo : Addr) (h : Heap) (as : List Addr) : Prop where
  rise : as.Pairwise (· < ·)
  over : ∀ a ∈ as, lo < a
  pairs : ∀ (j : Nat) (a : Addr), as[j]? = some a → ∃ x y, P1 j x ∧ P2 j y ∧ IsTupOf2 h a x y
theorem zg_loop {R : Result → Shared → Prop} {base : Heap} (Z : ZipSep2 zz TI TO i1 i2 f1 f2) (D1 : Draws prog w A.in1.in1 i1 f1 n1 P1 S1) (D2 : Draws prog w A.in1.in1 i2 f2 n2 P2 S2) (h12 : n1 ≤ n2)
    (n0 : zz < L) (nI : TI < L) (nO : TO < L) (m1 : i1 < L) (m2 : i2 < L) (nf1 : L ∉ f1) (nf2 : L ∉ f2) (hn : n1 ≤ sizeLine) (res : Value)
    (hR : ∀ h' tk acc c as, (∀ b o, b ≠ L → b ≠ zz → b ≠ TO → b ≠ i1 → b ≠ i2 → base.get? b = some o → h'.get? b = some o) → h'.get? L = some { cls := .type "list", dict := Option.none, data := .seq acc c, slots := #[] } → as.length = n1 → ZG P1 P2 L h' as →
      acc.toList = as.map Value.ref → R (.ok (.ret res)) { s with heap := h', toks := tk }) :
    ∀ (k i : Nat) (h : Heap) (tk c : Nat) (acc : Array Value) (as : List Addr), n1 - i = k → i ≤ n1 → ZS zz TI TO i1 i2 L S1 S2 i h → (∀ b o, b ≠ L → b ≠ zz → b ≠ TO → b ≠ i1 → b ≠ i2 → base.get? b = some o → h.get? b = some o) →
      h.get? L = some { cls := .type "list", dict := Option.none, data := .seq acc c, slots := #[] } → acc.toList = as.map Value.ref → as.length = i → ZG P1 P2 L h as →
      codeAny (model prog w) A (.builtin "list.extend.loop" ⟨[.ref L, .ref zz, res], []⟩) R { s with heap := h, toks := tk } := by
  intro k
  induction k with
  | zero =>
    intro i h tk c acc as hk hi st keep hL hacc hal hG
    refine codeAny_builtin F.entry_extend_loop ?_
    rw [Around.under_plainId F.plain_extend_loop _]
    show wpAny _ A.in1 (pyNext (.ref zz) >>= _) _ _ _
    refine wpAny_bind (zs_end (s := { s with heap := h, toks := tk }) Z D1 D2 st (by omega) h12 fun h' tk' kk => ?_)
    refine wpAny_pure (hR h' tk' acc c as (fun b o h1 h2 h3 h4 h5 e => kk b o h2 h3 h4 h5 (keep b o h1 h2 h3 h4 h5 e)) (kk L _ (Nat.ne_of_gt n0) (Nat.ne_of_gt nO) (Nat.ne_of_gt m1) (Nat.ne_of_gt m2) hL) (by omega) ⟨hG.rise, hG.over, fun j a hj => ?_⟩ hacc)
    obtain ⟨x, y, px, py, e⟩ := hG.pairs j a hj
    have hb := hG.over a (List.mem_of_getElem? hj)
    exact ⟨x, y, px, py, kk a _ (Nat.ne_of_gt (Nat.lt_trans n0 hb)) (Nat.ne_of_gt (Nat.lt_trans nO hb)) (Nat.ne_of_gt (Nat.lt_trans m1 hb)) (Nat.ne_of_gt (Nat.lt_trans m2 hb)) e⟩
  | succ k ih =>
    intro i h tk c acc as hk hi st keep hL hacc hal hG
    have hlt : i < n1 := by omega
    have size : acc.size = i := by rw [← Array.length_toList, hacc, List.length_map, hal]
    have lL : L < h.objs.size := Heap.lt_size hL
    refine codeAny_builtin F.entry_extend_loop ?_
    rw [Around.under_plainId F.plain_extend_loop _]
    show wpAny _ A.in1 (pyNext (.ref zz) >>= _) _ _ _
    refine wpAny_bind (zs_item (s := { s with heap := h, toks := tk }) Z D1 D2 st lL hlt (by omega) fun x y h' tk' px py st' new sz kk => ?_)
    dsimp only at new sz kk ⊢
    have hL' := kk L _ (Nat.ne_of_gt n0) (Nat.ne_of_gt nO) (Nat.ne_of_gt m1) (Nat.ne_of_gt m2) hL
    have up : ∀ b o, b ≠ L → h'.get? b = some o → (h'.update L (Obj.mapSeq (·.push (Value.ref h.objs.size)))).get? b = some o := fun b o hb e => (Heap.get?_update_other _ _ (Ne.symm hb)).trans e
    show wpAny _ A.in1 (updateSeq L (·.push (Value.ref h.objs.size)) >>= _) _ _ _
    refine wpAny_bind ?_
    refine wpAny_updateSeq hL' rfl (wpAny_pure ⟨plainId_quiet F.plain_extend_loop _, ih (i + 1) _ tk' _ (acc.push (Value.ref h.objs.size)) (as ++ [h.objs.size]) (by omega) hlt (st'.keep D1 D2 up (Nat.ne_of_lt n0) (Nat.ne_of_lt nI) (Nat.ne_of_lt nO) nf1 nf2)
      (fun b o h1 h2 h3 h4 h5 e => up b o h1 (kk b o h2 h3 h4 h5 (keep b o h1 h2 h3 h4 h5 e))) (Heap.get?_update_self _ hL' rfl) (by rw [Array.toList_push, hacc, List.map_append]; rfl) (by rw [List.length_append, hal]; rfl) ⟨?_, ?_, ?_⟩⟩) (by rw [size]; omega) (by show (acc.push (Value.ref h.objs.size)).size ≤ sizeLine + 1; rw [Array.size_push, size]; omega)
    · refine List.pairwise_append.mpr ⟨hG.rise, List.pairwise_singleton _ _, fun a ha b hb => ?_⟩
      obtain ⟨j, hj⟩ := List.mem_iff_getElem?.mp ha
      obtain ⟨_, _, _, _, e⟩ := hG.pairs j a hj
      rw [List.mem_singleton.mp hb]
      exact Heap.lt_size e
    · intro a ha
      rcases List.mem_append.mp ha with ha | ha
      · exact hG.over a ha
      · rw [List.mem_singleton.mp ha]; exact lL
    · intro j b hj
      rcases Nat.lt_trichotomy j as.length with h1 | h1 | h1
      · rw [List.getElem?_append_left h1] at hj
        obtain ⟨x', y', q1, q2, q3⟩ := hG.pairs j b hj
        have hb := hG.over b (List.mem_of_getElem? hj)
        exact ⟨x', y', q1, q2, up b _ (Nat.ne_of_gt hb) (kk b _ (Nat.ne_of_gt (Nat.lt_trans n0 hb)) (Nat.ne_of_gt (Nat.lt_trans nO hb)) (Nat.ne_of_gt (Nat.lt_trans m1 hb)) (Nat.ne_of_gt (Nat.lt_trans m2 hb)) q3)⟩
      · subst h1
        have hb : h.objs.size = b := by simpa using hj
        subst hb
        exact ⟨x, y, by rw [hal]; exact px, by rw [hal]; exact py, up _ _ (Nat.ne_of_gt lL) new⟩
      · rw [List.getElem?_eq_none (by rw [List.length_append, List.length_singleton]; omega)] at hj
        cases hj
theorem zg_call {Q : Value → Shared → Prop} (Z : ZipSep2 zz TI TO i1 i2 f1 f2) (D1 : Draws prog w A.in1.in1.in1 i1 f1 n1 P1 S1) (D2 : Draws prog w A.in1.in1.in1 i2 f2 n2 P2 S2) (h12 : n1 ≤ n2) (hn : n1 ≤ sizeLine)
    (gz : IsZip s.heap zz TI TO .none) (gI : IsTupOf2 s.heap TI (.ref i1) (.ref i2)) {a b : Value} (gO : IsTupOf2 s.heap TO a b) (t1 : S1 0 s.heap) (t2 : S2 0 s.heap) (nf1 : ∀ c ∈ f1, c < s.heap.objs.size) (nf2 : ∀ c ∈ f2, c < s.heap.objs.size)
    (hQ : ∀ h' tk acc c as, (∀ b o, b ≠ zz → b ≠ TO → b ≠ i1 → b ≠ i2 → s.heap.get? b = some o → h'.get? b = some o) → h'.get? s.heap.objs.size = some { cls := .type "list", dict := Option.none, data := .seq acc c, slots := #[] } → as.length = n1 → ZG P1 P2 s.heap.objs.size h' as →
      acc.toList = as.map Value.ref → Q (.ref s.heap.objs.size) { s with heap := h', toks := tk }) :
    wpAny (model prog w) A (call (.type "list") [.ref zz]) Q E s := by
  have q1 : s.heap.objs.size ∉ f1 := fun z => Nat.lt_irrefl _ (nf1 _ z)
  have q2 : s.heap.objs.size ∉ f2 := fun z => Nat.lt_irrefl _ (nf2 _ z)
  have lz := Heap.lt_size gz
  have lI := Heap.lt_size gI
  have lO := Heap.lt_size gO
  have m1 := nf1 _ Z.mem1
  have m2 := nf2 _ Z.mem2
  refine callType_codes (Q₁ := fun obj s₁ => obj = .ref s.heap.objs.size ∧ s₁ = { s with heap := s.heap.push { cls := .type "list", data := .seq #[] } }) F.called_list (F.typeCall_list_1 (.ref zz)) F.entry_list_init
    (code_list_new _ ⟨rfl, rfl⟩) fun obj s₁ h₁ => ?_
  obtain ⟨rfl, rfl⟩ := h₁
  have hS : (s.heap.push { cls := .type "list", data := .seq #[] }).get? s.heap.objs.size = some { cls := .type "list", data := .seq #[] } := Heap.get?_push_size _ rfl
  refine ⟨⟨_, hS, rfl⟩, F.args_list_init_2 _ (.ref zz), ?_⟩
  generalize hL : s.heap.objs.size = L at *
  have st0 : ZS zz TI TO i1 i2 L S1 S2 0 (s.heap.push { cls := .type "list", data := .seq #[] }) := ⟨Heap.get?_push_of_some _ gI, D1.frame _ _ _ t1 fun b _ o e => Heap.get?_push_of_some _ e, D2.frame _ _ _ t2 fun b _ o e => Heap.get?_push_of_some _ e, .inl ⟨Heap.get?_push_of_some _ gz, a, b, Heap.get?_push_of_some _ gO⟩⟩
  have k0 : ∀ b o, s.heap.get? b = some o → (s.heap.push { cls := .type "list", data := .seq #[] }).get? b = some o := fun b o e => Heap.get?_push_of_some _ e
  generalize (s.heap.push { cls := .type "list", data := .seq #[] }) = h0 at hS st0 k0
  show wpAny _ A.in1.in1 (do let old ← Builtin.List.listItems (.ref L); Builtin.List.listUpdate (.ref L) (fun _ => #[]); letGo old.toList.reverse; Builtin.List.listExtendWith (.ref L) (.ref zz) .none) _ _ _
  refine wpAny_bind ?_
  unfold Builtin.List.listItems
  refine wpAny_bind (wpAny_seqItems hS rfl (wpAny_pure ?_))
  show wpAny _ A.in1.in1 (updateSeq L (fun _ => #[]) >>= fun _ => letGo (#[] : Array Value).toList.reverse >>= fun _ => Builtin.List.listExtendWith (.ref L) (.ref zz) .none) _ _ _
  refine wpAny_bind (wpAny_updateSeq hS rfl ?_)
  have g2 := Heap.get?_update_self (Obj.mapSeq (fun _ => (#[] : Array Value))) hS rfl
  have kk2 : ∀ b o, b ≠ L → h0.get? b = some o → (h0.update L (Obj.mapSeq (fun _ => (#[] : Array Value)))).get? b = some o := fun b o hb e => (Heap.get?_update_other _ _ (Ne.symm hb)).trans e
  have st2 := st0.keep D1 D2 kk2 (Nat.ne_of_lt lz) (Nat.ne_of_lt lI) (Nat.ne_of_lt lO) q1 q2
  refine wpAny_bind (wpAny_letGo ?_)
  dsimp only at g2 kk2 st2 ⊢
  generalize (h0.update L (Obj.mapSeq (fun _ => (#[] : Array Value)))) = hh2 at g2 kk2 st2 ⊢
  have gz2 : IsZip hh2 zz TI TO .none := kk2 _ _ (Nat.ne_of_lt lz) (k0 _ _ gz)
  have ty2 : Shared.TypeIs { s with heap := hh2 } (.ref zz) "zip" := ⟨_, gz2, rfl⟩
  unfold Builtin.List.listExtendWith
  refine wpAny_bind (wpAny_typeOf ty2 ?_)
  have c1 : Builtin.List.listSameRef (.ref L) (.ref zz) = false := by simp [Builtin.List.listSameRef, Nat.ne_of_gt lz]
  have c2 : (Value.type "zip" == Value.type "list") = false := by decide
  have c3 : (Value.type "zip" == Value.type "tuple") = false := by decide
  simp only [c1, c2, c3, Bool.or_false, Bool.false_eq_true, if_false]
  refine wpAny_bind (wpAny_pyIter_zip gz2 ?_)
  refine wpAny_bind (wpAny_holding ?_)
  unfold Builtin.List.listLengthHint
  refine wpAny_bind (wpAny_specialOf ty2 zip_nolen ?_)
  show wpAny _ A.in1.in1 (specialOf (Value.ref zz) (Str.ofString "__length_hint__") >>= _) _ _ _
  refine wpAny_bind (wpAny_specialOf ty2 zip_nohint ?_)
  refine wpAny_pure ?_
  show wpAny _ A.in1.in1 (rule "list.extend.makes-room" >>= fun _ => Builtin.List.listTouch (.ref L) >>= fun _ =>
    again (.builtin "list.extend.loop" ⟨[.ref L, .ref zz, .none], []⟩)) _ _ _
  refine wpAny_bind (wpAny_rule ?_)
  refine wpAny_bind ?_
  show wpAny _ A.in1.in1 (updateSeq L (·.push .none) >>= fun _ => updateSeq L (·.pop)) _ _ _
  refine wpAny_bind (wpAny_updateSeq g2 rfl ?_)
  have g3 := Heap.get?_update_self (Obj.mapSeq (·.push Value.none)) g2 rfl
  refine wpAny_updateSeq (hz := by seq_fits) g3 rfl ?_
  have g4 := Heap.get?_update_self (Obj.mapSeq (·.pop)) g3 rfl
  have kk4 : ∀ b o, b ≠ L → hh2.get? b = some o → ((hh2.update L (Obj.mapSeq (·.push Value.none))).update L (Obj.mapSeq (·.pop))).get? b = some o :=
    fun b o hb e => (Heap.get?_update_other _ _ (Ne.symm hb)).trans ((Heap.get?_update_other _ _ (Ne.symm hb)).trans e)
  have lb : ∀ b o, s.heap.get? b = some o → b ≠ L := fun b o e => by rw [← hL]; exact Nat.ne_of_lt (Heap.lt_size e)
  refine wpAny_pure ⟨plainId_quiet F.plain_extend_loop _, ?_⟩
  refine zg_loop (s := { s with heap := _ }) (base := s.heap) Z D1 D2 h12 lz lI lO m1 m2 q1 q2 hn .none (fun h' tk acc c as kk hl hal hG hacc => ⟨rfl, hQ h' tk acc c as (fun b o h2 h3 h4 h5 e => kk b o (lb b o e) h2 h3 h4 h5 e) hl hal hG hacc⟩)
    n1 0 _ _ _ #[] [] (by omega) (Nat.zero_le _) (st2.keep D1 D2 kk4 (Nat.ne_of_lt lz) (Nat.ne_of_lt lI) (Nat.ne_of_lt lO) q1 q2) (fun b o h1 _ _ _ _ e => kk4 b o h1 (kk2 b o h1 (k0 b o e))) g4 rfl rfl ⟨List.Pairwise.nil, (fun _ ha => nomatch ha), (fun j a hj => by simp at hj)⟩
end
section
variable {X : Cx} {e e2 : Expr} {ta : TA} {p p2 cpos pos : Pos}
theorem vals_back : ∀ {xs : List V} {us : List Value} {i : Nat} {u : Value}, Paired RelV xs us → us[i]? = some u → ∃ x, xs[i]? = some x ∧ RelV x u
  | _, _, i, u, .nil, h => by cases h
  | _, _, 0, u, .cons r t, h => by
    have e := Option.some.inj h
    subst e
    exact ⟨_, rfl, r⟩
  | _, _, i + 1, u, .cons r t, h => vals_back (i := i) t (by simpa using h)
theorem sep5 (n l : Nat) (h : l < n) : ZipSep2 (n + 4) (n + 2) (n + 3) n (n + 1) [n] [n + 1, l] := by
  have ne : ∀ a b : Nat, a < b → ¬ (a : Addr) = b := fun a b h z => Nat.ne_of_lt h z
  have en : ∀ a b : Nat, b < a → ¬ (a : Addr) = b := fun a b h z => Nat.ne_of_gt h z
  have no1 : ∀ a b : Nat, (a < b ∨ b < a) → (a : Addr) ∉ [(b : Addr)] := fun a b h z => by
    have e : a = b := List.mem_singleton.mp z
    omega
  have no2 : ∀ a b c : Nat, (a < b ∨ b < a) → (a < c ∨ c < a) → (a : Addr) ∉ [(b : Addr), (c : Addr)] := fun a b c h1 h2 z => by
    rcases List.mem_cons.mp z with e | e
    · have e : a = b := e
      omega
    · have e : a = c := List.mem_singleton.mp e
      omega
  exact ⟨ne _ _ (by omega), ne _ _ (by omega), ne _ _ (by omega), en _ _ (by omega), List.mem_cons_self, no1 _ _ (by omega), no1 _ _ (by omega), en _ _ (by omega), List.mem_cons_self, no2 _ _ _ (by omega) (by omega), no2 _ _ _ (by omega) (by omega), no2 _ _ _ (by omega) (by omega), no1 _ _ (by omega)⟩
/-- the pairs of the signs of x and of ys -/
def zkv (x : Str) (ys : List V) : List (Key × V) := (x.cps.toList.zip ys).map fun q => (Sum.inr ⟨#[q.1]⟩, q.2)
theorem zkv_len {x : Str} {ys : List V} (h : x.length = ys.length) : (zkv x ys).length = x.length := by
  unfold zkv
  rw [List.length_map, List.length_zip]
  show min x.length ys.length = _
  omega
theorem zkv_at {x : Str} {ys : List V} {j c : Nat} {y : V} (h1 : x.cps[j]? = some c) (h2 : ys[j]? = some y) : (zkv x ys)[j]? = some (Sum.inr ⟨#[c]⟩, y) := by
  unfold zkv
  rw [List.getElem?_map, List.zip_eq_zipWith, List.getElem?_zipWith, Array.getElem?_toList, h1, h2]
  rfl
theorem zip_laid {pins : List (Addr × Obj)} {σ : L2.St} {H : Hp} {s : Shared} {h' : Heap} {tk : Nat} {kvs : List (Key × V)} {acc : Array Value} {c : Nat} {L : Addr} {as : List Addr} (I : Inv X pins σ H s) (hL : s.heap.objs.size ≤ L) (hz : kvs.length ≤ sizeLine)
    (kk : ∀ b o, s.heap.get? b = some o → h'.get? b = some o) (eL : h'.get? L = some { cls := .type "list", dict := none, data := .seq acc c, slots := #[] }) (hl : as.length = kvs.length) (rise : as.Pairwise (· < ·)) (over : ∀ a ∈ as, L < a)
    (prs : ∀ (j : Nat) (a : Addr), as[j]? = some a → ∃ q x y, kvs[j]? = some q ∧ RelV (kV q.1) x ∧ RelV q.2 y ∧ IsTupOf2 h' a x y) (hacc : acc.toList = as.map Value.ref) :
    ∃ H' : Hp, (∀ b o, H b = some o → H' b = some o) ∧ H L = none ∧ (∀ t ∈ as, H t = none) ∧ L ∉ as ∧ H' L = some (.lst (as.map V.ref)) ∧ Paired (fun (t : Addr) (q : Key × V) => H' t = some (.tup [kV q.1, q.2])) as kvs ∧ Inv X pins σ H' { s with heap := h', toks := tk } := by
  have nL : L ∉ as := fun z => Nat.lt_irrefl _ (over _ z)
  have nd : as.Nodup := List.Pairwise.imp (fun {a b} (h : a < b) => Nat.ne_of_lt h) rise
  have newT : ∀ t ∈ as, H t = none := fun t ht => I.hok.fresh (Nat.le_trans hL (Nat.le_of_lt (over t ht)))
  have newL : H L = none := I.hok.fresh hL
  have laid := LiI.putT_at as kvs (upd H L (.lst (as.map V.ref))) hl nd
  have off : ∀ b, b ∉ as → b ≠ L → LiI.putT (upd H L (.lst (as.map V.ref))) as kvs b = H b := fun b q1 q2 => by rw [LiI.putT_off as kvs _ q1, upd_ne q2]
  have low : ∀ b o, s.heap.get? b = some o → b ∉ as ∧ b ≠ L := fun b o e => ⟨fun z => absurd (Heap.lt_size e) (Nat.not_lt.mpr (Nat.le_trans hL (Nat.le_of_lt (over b z)))), fun z => absurd (Heap.lt_size e) (Nat.not_lt.mpr (z ▸ hL))⟩
  have same : ∀ b u, H b = some u → (LiI.putT (upd H L (.lst (as.map V.ref))) as kvs) b = some u := fun b u e => by
    rw [off b (fun z => by rw [newT b z] at e; cases e) (fun z => by rw [z, newL] at e; cases e), e]
  have atL : LiI.putT (upd H L (.lst (as.map V.ref))) as kvs L = some (.lst (as.map V.ref)) := by rw [LiI.putT_off as kvs _ nL, upd_same]
  refine ⟨LiI.putT (upd H L (.lst (as.map V.ref))) as kvs, same, newL, newT, nL, atL, laid, ?_⟩
  refine I.call' (ch := []) rfl ⟨fun b o q _ _ _ => kk b o q, fun b o q _ _ _ => ⟨o.slots, kk b o q⟩, fun b o q n _ => ?_, fun b o q _ => ⟨o, kk b o q⟩, fun b xs q => same b _ q, fun b o u q => same b _ q, fun b ps q => ⟨#[], by rw [same b _ q]; simp⟩⟩ (fun b u q => ?_) I.bare fun b z => by simp at z
  · obtain ⟨z1, z2⟩ := low b o q
    rw [off b z1 z2, n]
  · by_cases hb : b ∈ as
    · obtain ⟨j, pk, e1, e2, e3⟩ := LiI.paired_ix laid hb
      rw [e3] at q
      cases q
      obtain ⟨pq, x, y, g1, g2, g3, g4⟩ := prs j b e1
      rw [e2] at g1
      cases g1
      exact ⟨by show 2 ≤ sizeLine; decide, [x, y], .cons g2 (.cons g3 .nil), ⟨_, g4, rfl, _, rfl⟩⟩
    · by_cases hb2 : b = L
      · rw [hb2] at q ⊢
        rw [atL] at q
        cases q
        refine ⟨by rw [List.length_map, hl]; exact hz, acc.toList, c, by rw [hacc]; exact LiI.vals_refs as, ?_⟩
        rw [Array.toArray_toList]
        exact eL
      · rw [off b hb hb2] at q
        exact (I.hok b u q).stay (fun d v _ y => kk d v y) (fun d y => same d _ y) fun d xs y => same d _ y
def rZipL (K : PySem.W.Frag) : List V → Hp → VK → Prop := fun vs H Q => ∃ (x : Str) (l : Addr) (ys : List V), vs = [.str x, .ref l] ∧ SqL K H l ys ∧ x.length = ys.length ∧ x.length ≤ sizeLine ∧
  ∀ (H' : Hp) (q : Addr) (ts : List Addr), Same H H' → H q = none → (∀ t ∈ ts, H t = none) → q ∉ ts → H' q = some (.lst (ts.map V.ref)) → Paired (fun (t : Addr) (u : Key × V) => H' t = some (.tup [kV u.1, u.2])) ts (zkv x ys) → Q (.ref q) H'
def tLstZ (K : PySem.W.Frag) (ta : TA) : TE := fun σ H Q => ta σ H fun vs H1 => rZipL K vs H1 Q
/-- list(zip(text, list)) -/
theorem pe_listZip (hc : X.calm = true) (ha : PA X [e, e2] ta) (hg : Gl X "list") (hm : X.mg "list" = none) (hv : bootBuiltins "list" = some (.type "list")) (hg2 : Gl X "zip") (hm2 : X.mg "zip" = none)
    (hs : starEach [e, e2] X.env = (false, eval e X.env) :: starEach [e2] X.env := by rfl) (hpl : (backTo cpos (starEach [e2] X.env)).any (·.1) = false := by rfl)
    (na : starEach [.Call (.Name "zip" p2) [e, e2] [] cpos] X.env = (false, eval (.Call (.Name "zip" p2) [e, e2] [] cpos) X.env) :: starEach [] X.env := by rfl) :
    PE X (.Call (.Name "list" p) [.Call (.Name "zip" p2) [e, e2] [] cpos] [] pos) (tLstZ X.K ta) := by
  refine ⟨fun pins s σ H Q I h => ?_⟩
  refine Call_ (ld_blt I hg hm hv ?_)
  refine PyProof.Rows.callWith_type1 (PyProof.Rows.args_cons ?_ na) na rfl
  refine Call_ (ld_blt I hg2 hm2 PyProof.Rows.boot_zip (PyProof.Rows.callWith_type1 (thn (ha.run cpos pins s σ H _ I h) fun us s1 ⟨vs, H1, I1, r1, q1⟩ => ?_) hs hpl))
  obtain ⟨x, l, ys, rfl, hq, hxy, hxz, q⟩ := q1
  cases r1 with
  | cons r rr =>
    cases rr with
    | cons r' rr =>
      cases rr
      obtain ⟨t, rfl⟩ := r
      cases r'
      obtain ⟨its, rv, p1, hiz⟩ := I1.list hq
      have ll : l < s1.heap.objs.size := p1.lt
      have hlen : its.toArray.size = x.cps.size := by
        rw [List.size_toArray, ← rv.length]
        exact hxy.symm
      have D0 : (s1.heap.objs.size : Nat) < s1.heap.objs.size + 1 := Nat.lt_succ_self _
      have hh : X.A.in1.in1.in1.handled = none := I1.ok.hd hc
      refine zip_begins2 (begins_text x t) (begins_list l its.toArray) trivial p1.isList fun h' gz gI gO g1 g2 size kk => PyProof.Rows.args_nil ?_
      have Z := sep5 s1.heap.objs.size l ll
      refine zg_call (n1 := x.cps.size) (n2 := its.toArray.size) (P1 := fun i v => ∃ c u, x.cps[i]? = some c ∧ v = .str ⟨#[c]⟩ u) (P2 := fun i v => its.toArray[i]? = some v) (S1 := fun i h => h.IsStrIter s1.heap.objs.size (strIterType x) x t i) (S2 := fun i h => h.IsListIter (s1.heap.objs.size + 1) l i ∧ h.IsList l its.toArray)
        Z (Draws.text hh _ x t) (Draws.list hh _ l (Nat.ne_of_lt (Nat.lt_succ_of_lt ll)) its.toArray) (by omega) hxz gz gI gO ⟨_, g1, rfl, rfl⟩ ⟨⟨_, g2, rfl, rfl⟩, p1.isList.at fun o e => kk l o e⟩ ?_ ?_ ?_
      · intro c hc
        have e : c = s1.heap.objs.size := by simpa using hc
        subst e
        show _ < h'.objs.size
        omega
      · intro c hc
        show (c : Nat) < h'.objs.size
        have z : c = s1.heap.objs.size + 1 ∨ c = l := by simpa using hc
        have ll' : (l : Nat) < s1.heap.objs.size := ll
        rcases z with z | z
        · rw [size, z]
          exact Nat.add_lt_add_left (by decide) _
        · rw [size, z]
          exact Nat.lt_of_lt_of_le ll' (Nat.le_add_right _ _)
      · intro h2 tk acc c as kp eL hal hG hacc
        dsimp only at kp eL hG ⊢
        have lows : ∀ b o, s1.heap.get? b = some o → h2.get? b = some o := fun b o e => by
          have hb : (b : Nat) < s1.heap.objs.size := Heap.lt_size e
          have far : ∀ k : Nat, b ≠ s1.heap.objs.size + k := fun k z => Nat.ne_of_lt (Nat.lt_of_lt_of_le hb (Nat.le_add_right _ k)) z
          exact kp b o (far 4) (far 3) (far 0) (far 1) (kk b o e)
        obtain ⟨H', k1, k2, k3, k4, k5, k6, J⟩ := zip_laid (tk := tk) (kvs := zkv x ys) I1 (L := h'.objs.size) (by rw [size]; exact Nat.le_add_right _ _) (by rw [zkv_len hxy]; exact hxz) lows eL (by rw [zkv_len hxy]; exact hal) hG.rise hG.over (fun j a hj => by
          obtain ⟨u, v, ⟨cc, uu, e1, e2⟩, e3, e4⟩ := hG.pairs j a hj
          subst e2
          have e3' : its[j]? = some v := by simpa using e3
          obtain ⟨y, hy, ry⟩ := vals_back rv e3'
          exact ⟨_, _, _, zkv_at e1 hy, ⟨_, rfl⟩, ry, e4⟩) hacc
        exact ⟨.ref _, H', J, rfl, q H' _ as k1 k2 k3 k4 k5 k6⟩
end
end Rz

namespace Rz
open PySem PySem.Spec PyProof.Rows L2
/-! ### more of the class's own special methods -/
section
variable {X : Cx} {k : Nat} {f C a dx : Addr} {fs : List (Str × V)} {fd : FuncData} {ps : List Str} {sp : Sp} {pins : List (Addr × Obj)} {σ : L2.St} {H : Hp} {s : Shared}
/-- o += x by the own __iadd__ -/
def tIpO (C : Addr) (sp : Sp) : V → V → Hp → VK → Prop := fun x y H Q => ∃ a dx fs, x = .ref a ∧ H a = some (.ins C dx fs) ∧ sp [x, y] H (fun v H' => (∃ b, v = .ref b) ∧ Q v H') E0
theorem ip_own (M : Meth X.K C "__iadd__" f) (hc : PySem.W.selfFirst X.K C = true) (F : FnOk X.prog X.w X.K X.mg X.base (L2.CX X.prog X.w) k f fd ps sp) (hr : Room k X.A) (hb : Binds X.K fd ps []) : PIp X .Add (tIpO C sp) := by
  intro pins s σ H x y v u Q I r1 r2 h
  obtain ⟨a, dx, fs, rfl, ea, hq⟩ := h
  obtain rfl : v = Value.ref a := r1
  obtain ⟨od, J⟩ := inst_at I ea
  obtain ⟨m0, hF⟩ := I.fr
  refine PySem.W.ksp_inplace hF I.ok.mod.kin J hc M.at_ M.fn (wpAny_mono (run_below (vs := [.ref a, y]) F hr rfl hb I (.cons rfl (.cons r2 .nil)) hq) (fun r s' hv => ?_) fun _ _ z => z)
  obtain ⟨z, H', J', rz, ⟨b, rfl⟩, q⟩ := hv
  obtain rfl : r = Value.ref b := rz
  exact ⟨.ref b, H', J', rfl, q⟩
/-- o[i] = v by the own __setitem__ -/
def tSetO (C : Addr) (sp : Sp) : TSet := fun o i v H Q => ∃ a dx fs, o = .ref a ∧ H a = some (.ins C dx fs) ∧ sp [o, i, v] H (fun _ H' => Q H') E0
theorem set_own (M : Meth X.K C "__setitem__" f) (hn : PySem.W.noSeq X.K C = true) (F : FnOk X.prog X.w X.K X.mg X.base (L2.CX X.prog X.w) k f fd ps sp) (hr : Room k X.A) (hb : Binds X.K fd ps []) : PSet X (tSetO C sp) := by
  intro pins s σ H o i v ov iv u Q I r1 r2 r3 h
  obtain ⟨a, dx, fs, rfl, ea, hq⟩ := h
  obtain rfl : ov = Value.ref a := r1
  obtain ⟨od, J⟩ := inst_at I ea
  obtain ⟨m0, hF⟩ := I.fr
  refine PySem.W.ksp_setItem hF I.ok.mod.kin J hn M.at_ M.fn (wpAny_mono (run_below (vs := [.ref a, i, v]) F hr rfl hb I (.cons rfl (.cons r2 (.cons r3 .nil))) hq) (fun r s' hv => ?_) fun _ _ z => z)
  obtain ⟨z, H', J', rz, q⟩ := hv
  exact ⟨H', J', q⟩
/-- len(x) by the own __len__ -/
def rLenO (C : Addr) (sp : Sp) : List V → Hp → VK → Prop := fun xs H Q => ∃ a dx fs, xs = [.ref a] ∧ H a = some (.ins C dx fs) ∧ sp [.ref a] H (fun v H' => ∃ n : Nat, v = .int n ∧ n < 2 ^ 63 ∧ Q v H') E0
theorem call_lenO (M : Meth X.K C "__len__" f) (F : FnOk X.prog X.w X.K X.mg X.base (L2.CX X.prog X.w) k f fd ps sp) (hr : Room (k + 1) X.A) (hb : Binds X.K fd ps []) : CallR X (.builtin "len") (rLenO C sp) := by
  intro pins s σ H xs us Q I r h
  obtain ⟨a, dx, fs, rfl, ea, hq⟩ := h
  obtain ⟨u, rfl, ru⟩ := vals1 r
  obtain rfl : u = Value.ref a := ru
  obtain ⟨od, J⟩ := inst_at I ea
  obtain ⟨m0, hF⟩ := I.fr
  refine PySem.W.len_K hF I.ok.mod.kin J M.at_ M.fn (wpAny_mono (run_below (vs := [.ref a]) F hr.in1 rfl hb I (.cons rfl .nil) hq) (fun r s' hv => ?_) fun _ _ z => z)
  obtain ⟨z, H', J', rz, n, rfl, hn, q⟩ := hv
  obtain ⟨t, rfl⟩ := rz
  exact ⟨⟨by omega, by omega⟩, .int n, H', J'.tok _, ⟨_, rfl⟩, q⟩
/-- abs(x) by the own __abs__ -/
def rAbsO (C : Addr) (sp : Sp) : List V → Hp → VK → Prop := fun xs H Q => ∃ a dx fs, xs = [.ref a] ∧ H a = some (.ins C dx fs) ∧ sp [.ref a] H Q E0
theorem call_absO (M : Meth X.K C "__abs__" f) (F : FnOk X.prog X.w X.K X.mg X.base (L2.CX X.prog X.w) k f fd ps sp) (hr : Room (k + 1) X.A) (hb : Binds X.K fd ps []) : CallR X (.builtin "abs") (rAbsO C sp) := by
  intro pins s σ H xs us Q I r h
  obtain ⟨a, dx, fs, rfl, ea, hq⟩ := h
  obtain ⟨u, rfl, ru⟩ := vals1 r
  obtain rfl : u = Value.ref a := ru
  obtain ⟨od, J⟩ := inst_at I ea
  refine Calls.call_function_entry kind_abs plain_abs entry_abs (args_abs _) ?_
  unfold Builtin.«abs»
  refine wpAny_bind (m := oneArg "abs" _) (wpAny_pure ?_)
  refine wpAny_bind (m := callSpecial? (.ref a) (Str.ofString "__abs__")) (PySem.W.special_fn I.kIn J M.at_ (beq_iff_eq.mp M.fn) (wpAny_mono (run_below (vs := [.ref a]) F hr.in1 rfl hb I (.cons rfl .nil) hq) (fun r s' hv => ?_) fun _ _ z => z))
  exact wpAny_pure ⟨_, rfl, hv⟩
end
end Rz
namespace Rz
open PySem PySem.Spec PyProof.Rows L2
section
variable {X : Cx} {k : Nat} {fi fn C : Addr} {fdI fdN : FuncData} {psI psN : List Str} {spI spN : Sp} {pins : List (Addr × Obj)} {σ : L2.St} {A1 : Around} {l q it : Addr} {ys : List V} {H0 : Hp} {Rs : Result → Shared → Prop}
/-- a list filled from an iterator over another one -/
theorem lo_loop (hh : A1.handled = none) (hs : SqL X.K H0 l ys) (hz : ys.length ≤ sizeLine) (nq : H0 q = none) (ni : H0 it = none) (ne : it ≠ q)
    (hR : ∀ H s, Inv X pins σ H s → (∀ b o, H0 b = some o → H b = some o) → H q = some (.lst ys) → Rs (.ok (.ret .none)) s) :
    ∀ (j i : Nat) (H : Hp) (s : Shared), ys.length - i = j → i ≤ ys.length → Inv X pins σ H s → (∀ b o, H0 b = some o → H b = some o) → H it = some (ItO l it i) → H q = some (.lst (ys.take i)) →
      codeAny (model X.prog X.w) A1 (.builtin "list.extend.loop" ⟨[.ref q, .ref it, .none], []⟩) Rs s := by
  intro j
  induction j with
  | zero =>
    intro i H s hj hi I S ei eq
    have e0 : i = ys.length := by omega
    subst e0
    obtain ⟨its, rv, pl, _⟩ := I.list (Same.seq (H := H0) (H' := H) (fun b o e => S b o e) hs)
    have ty : s.TypeIs (.ref it) "list_iterator" := ⟨_, itO_get I ei, rfl⟩
    have mu : Mut (H it) := by rw [ei]; exact True.intro
    refine codeAny_builtin PySem.F.entry_extend_loop ?_
    rw [Around.under_plainId PySem.F.plain_extend_loop _]
    show wpAny _ A1.in1 (pyNext (.ref it) >>= _) _ _ s
    refine wpAny_bind ?_
    unfold pyNext
    refine wpAny_bind (wpAny_attempt (wpAny_callSpecial?_slot (name := Str.ofString "__next__") ty slot_listiter_next (wpAny_call_entry slot_listiter_next ty entry_listiter_next
      (GNX.next_end (A := A1.in1) hh (itO_get I ei) pl.isList (by rw [List.getElem?_toArray]; exact rv.none_of (List.getElem?_eq_none (Nat.le_refl _))) fun h1 h' e vs e1 sb kk nn he hv => ?_) (args_listiter_next _))))
    refine wpAny_bind (wpAny_isInstance (T := "StopIteration") (b := true) ⟨_, he, rfl⟩ isSubtype_stop ?_)
    have I2 : Inv X pins σ (upd H it (ItE it ys.length)) { s with heap := h1 } := I.write (x := it) (e := it) (t' := s.toks) mu (.inl rfl) (fun b o nb z => (sb.2 b nb).trans z) ⟨_, e1⟩ (itE_ok e1)
    have I3 : Inv X pins σ (upd H it (ItE it ys.length)) { s with heap := h' } := I2.kept (t' := s.toks) kk
    refine wpAny_pure (wpAny_pure (hR _ _ I3 (fun b o e => ?_) ?_))
    · rw [upd_ne (ne_of_none e ni)]
      exact S b o e
    · rw [upd_ne (Ne.symm ne), eq, List.take_length]
  | succ j ih =>
    intro i H s hj hi I S ei eq
    have hlt : i < ys.length := by omega
    obtain ⟨its, rv, pl, _⟩ := I.list (Same.seq (H := H0) (H' := H) (fun b o e => S b o e) hs)
    obtain ⟨u, hu, ru⟩ := rv.get (List.getElem?_eq_getElem hlt)
    have ty : s.TypeIs (.ref it) "list_iterator" := ⟨_, itO_get I ei, rfl⟩
    have mu : Mut (H it) := by rw [ei]; exact True.intro
    refine codeAny_builtin PySem.F.entry_extend_loop ?_
    rw [Around.under_plainId PySem.F.plain_extend_loop _]
    show wpAny _ A1.in1 (pyNext (.ref it) >>= _) _ _ s
    refine wpAny_bind ?_
    unfold pyNext
    refine wpAny_bind (wpAny_attempt (wpAny_callSpecial?_slot (name := Str.ofString "__next__") ty slot_listiter_next (wpAny_call_entry slot_listiter_next ty entry_listiter_next
      (GNX.next_item (itO_get I ei) pl.isList (by rw [List.getElem?_toArray]; exact hu) fun h' e' sb => wpAny_pure ?_) (args_listiter_next _))))
    have I1 : Inv X pins σ (upd H it (ItO l it (i + 1))) { s with heap := h' } := I.write (x := it) (e := it) (t' := s.toks) mu (.inl rfl) (fun b o nb z => (sb.2 b nb).trans z) ⟨_, e'⟩ (itO_ok e')
    have eq1 : upd H it (ItO l it (i + 1)) q = some (.lst (ys.take i)) := by rw [upd_ne (Ne.symm ne), eq]
    obtain ⟨z, its2, n, r2, hl, e⟩ := I1.lstM eq1
    have ltk : (ys.take i).length = i := by rw [List.length_take]; omega
    have tk1 : ys.take (i + 1) = ys.take i ++ [ys[i]] := by rw [List.take_add_one, List.getElem?_eq_getElem hlt]; rfl
    show wpAny _ A1.in1 (updateSeq q (·.push u) >>= _) _ _ _
    refine wpAny_bind (wpAny_updateSeq e rfl (wpAny_pure ⟨plainId_quiet PySem.F.plain_extend_loop _, ?_⟩) (by rw [List.size_toArray]; omega) (by show (its2.toArray.push u).size ≤ sizeLine + 1; rw [Array.size_push, List.size_toArray]; omega))
    refine ih (i + 1) _ _ (by omega) hlt (I1.lset (its' := its2 ++ [u]) (t' := s.toks) eq1 e (by simp) (r2.append (.cons ru .nil)) (by rw [List.length_append, List.length_singleton]; omega)) (fun b o e => ?_) ?_ ?_
    · rw [upd_ne (ne_of_none e nq), upd_ne (ne_of_none e ni)]
      exact S b o e
    · rw [upd_ne ne, upd_same]
    · rw [upd_same, tk1]
def rListO (K : PySem.W.Frag) (C : Addr) (spI spN : Sp) : List V → Hp → VK → Prop := fun xs H Q => ∃ (a dx : Addr) (fs : List (Str × V)) (l : Addr) (ys : List V) (n : Nat), xs = [.ref a] ∧ H a = some (.ins C dx fs) ∧ SqL K H l ys ∧ n < 2 ^ 63 ∧ Builtin.List.listTooLong n = false ∧
  (∀ (H1 : Hp) (R : VK), Same H H1 → (∀ it, H1 it = none → R (.ref it) (upd H1 it (ItO l it 0))) → spI [.ref a] H1 R E0) ∧ (∀ (H1 : Hp) (R : VK), Same H H1 → R (.int (n : Nat)) H1 → spN [.ref a] H1 R E0) ∧
  ∀ (H' : Hp) (q : Addr), Same H H' → H q = none → H' q = some (.lst ys) → Q (.ref q) H'
theorem hint_own {M : Model} {A : Around} {E : Value → Shared → Prop} {s : Shared} {a : Addr} {Q : Bool → Shared → Prop} {K : PySem.W.Frag} {ox : Obj} {od : Option Obj} (hK : K.In s.heap) (MN : Meth K C "__len__" fn) (J : PySem.W.InstAt s.heap a ox C od)
    (h : wpAny M A (call (.builtin "len") [.ref a]) (fun v s' => ∃ (n : Int) (t : Tok), v = .int n t ∧ Builtin.List.listTooLong n.toNat = false ∧ Q (n != 0) s') (fun _ _ => False) s) : wpAny M A (Builtin.List.listLengthHint (.ref a)) Q E s := by
  unfold Builtin.List.listLengthHint
  refine wpAny_bind (wpAny_bind (J.type.here ((PySem.W.looks_findIn hK MN.at_).here ?_)))
  refine PySem.W.KFB.if_not rfl ?_
  refine PySem.W.KFB.if_so rfl ?_
  refine wpAny_bind (wpAny_rule ?_)
  refine wpAny_bind (wpAny_attempt (wpAny_mono h (fun v s' hv => ?_) fun _ _ z => z.elim))
  obtain ⟨n, t, rfl, hl, q⟩ := hv
  refine wpAny_bind (wpAny_of_eq (a := some n) rfl ?_)
  refine PySem.W.KFB.if_not hl ?_
  exact wpAny_pure q
theorem li_next : typeLookup (.type "list_iterator") "__next__" = pure (some (.builtin "list_iterator.__next__")) := slot_listiter_next.lookup
/-- list(x) by the own __iter__, that yields an iterator over a list, and the own __len__ -/
theorem call_listR (hcalm : X.calm = true) (MI : Meth X.K C "__iter__" fi) (FI : FnOk X.prog X.w X.K X.mg X.base (L2.CX X.prog X.w) k fi fdI psI spI) (bI : Binds X.K fdI psI []) (MN : Meth X.K C "__len__" fn) (FN : FnOk X.prog X.w X.K X.mg X.base (L2.CX X.prog X.w) k fn fdN psN spN) (bN : Binds X.K fdN psN [])
    (hr : Room (k + 3) X.A) : CallR X (.type "list") (rListO X.K C spI spN) := by
  intro pins s σ H xs us Q I r h
  obtain ⟨a, dx, fs, l, ys, n, rfl, ha, hq, hn, hlong, hI, hN, fin⟩ := h
  obtain ⟨u, rfl, ru⟩ := vals1 r
  obtain rfl : u = Value.ref a := ru
  obtain ⟨its0, rv0, pl0, hz⟩ := I.list hq
  have hyz : ys.length ≤ sizeLine := by
    have := rv0.length
    omega
  refine callType_codes (Q₁ := fun obj s₁ => obj = .ref s.heap.objs.size ∧ s₁ = { s with heap := s.heap.push { cls := .type "list", data := .seq #[] } }) PySem.F.called_list (PySem.F.typeCall_list_1 (.ref a)) PySem.F.entry_list_init
    (code_list_new _ ⟨rfl, rfl⟩) fun obj s₁ h₁ => ?_
  obtain ⟨rfl, rfl⟩ := h₁
  have hS : (s.heap.push { cls := .type "list", data := .seq #[] }).get? s.heap.objs.size = some { cls := .type "list", data := .seq #[] } := Heap.get?_push_size _ rfl
  refine ⟨⟨_, hS, rfl⟩, PySem.F.args_list_init_2 _ (.ref a), ?_⟩
  have fr : H s.heap.objs.size = none := I.hok.fresh (Nat.le_refl _)
  have I1 : Inv X pins σ (upd H s.heap.objs.size (.lst [])) { s with heap := s.heap.push { cls := .type "list", data := .seq #[] } } := I.lnew (its := []) (t' := s.toks) .nil (Nat.zero_le _)
  generalize s.heap.objs.size = p at fr I1 hS ⊢
  show wpAny _ X.A.in1.in1 (do let old ← Builtin.List.listItems (.ref p); Builtin.List.listUpdate (.ref p) (fun _ => #[]); letGo old.toList.reverse; Builtin.List.listExtendWith (.ref p) (.ref a) .none) _ _ _
  refine wpAny_bind ?_
  unfold Builtin.List.listItems
  refine wpAny_bind (wpAny_seqItems hS rfl (wpAny_pure ?_))
  show wpAny _ _ (updateSeq p (fun _ => #[]) >>= fun _ => letGo (#[] : Array Value).toList.reverse >>= fun _ => Builtin.List.listExtendWith (.ref p) (.ref a) .none) _ _ _
  refine wpAny_bind (wpAny_updateSeq hS rfl ?_)
  have I2 := I1.lset (f := fun _ => #[]) (its := []) (its' := []) (ys := []) (t' := s.toks) upd_same hS rfl .nil (Nat.zero_le _)
  rw [upd_upd] at I2
  refine wpAny_bind (wpAny_letGo ?_)
  have S2 : Same H (upd H p (.lst [])) := Rz.Same.new (Same.refl H) fr
  have ha2 := S2 _ _ ha
  have hne : p ≠ a := fun z => by
    subst z
    rw [fr] at ha
    cases ha
  obtain ⟨od, J⟩ := inst_at I2 ha2
  obtain ⟨m0, hF⟩ := I2.fr
  unfold Builtin.List.listExtendWith
  refine wpAny_bind (J.type.here ?_)
  have c1 : Builtin.List.listSameRef (.ref p) (.ref a) = false := by simp [Builtin.List.listSameRef, hne]
  have c2 : (Value.ref C == Value.type "list") = false := rfl
  have c3 : (Value.ref C == Value.type "tuple") = false := rfl
  simp only [c1, c2, c3, Bool.or_false, Bool.false_eq_true, if_false]
  refine wpAny_bind (PySem.W.owit_iter hF I2.ok.mod.kin J MI.at_ MI.fn (wpAny_mono (run_below (A := X.A.in1.in1) (vs := [.ref a]) FI (hr.in1.in1.mono (Nat.le_succ k)) rfl bI I2 (.cons rfl .nil)
    (hI _ (fun v H' => ∃ it, v = .ref it ∧ upd H p (.lst []) it = none ∧ H' = upd (upd H p (.lst [])) it (ItO l it 0)) S2 fun it hit => ⟨it, rfl, hit, rfl⟩)) (fun v s' hv => ?_) fun _ _ z => z))
  obtain ⟨x, H3, I3, rx, it, rfl, hit, rfl⟩ := hv
  obtain rfl : v = Value.ref it := rx
  have S3 : Same H (upd (upd H p (.lst [])) it (ItO l it 0)) := Rz.Same.new S2 hit
  have fit : H it = none := by
    cases e : H it with
    | none => rfl
    | some o => rw [S2 _ _ e] at hit; cases hit
  have nip : it ≠ p := fun z => by
    subst z
    rw [upd_same] at hit
    cases hit
  have ty : s'.TypeIs (.ref it) "list_iterator" := ⟨_, itO_get I3 upd_same, rfl⟩
  unfold PySem.W.OwitIt
  refine wpAny_specialOf ty li_next ?_
  refine wpAny_bind (wpAny_holding ?_)
  have ha3 := S3 _ _ ha
  obtain ⟨od3, J3⟩ := inst_at I3 ha3
  obtain ⟨m3, hF3⟩ := I3.fr
  refine hint_own I3.kIn MN J3 (PySem.W.len_K hF3 I3.ok.mod.kin J3 MN.at_ MN.fn (wpAny_mono (run_below (A := X.A.in1.in1.in1) (vs := [.ref a]) (E' := fun _ _ => False) FN hr.in1.in1.in1 rfl bN I3 (.cons rfl .nil)
    (hN _ (fun v H' => v = .int (n : Nat) ∧ H' = upd (upd H p (.lst [])) it (ItO l it 0)) S3 ⟨rfl, rfl⟩)) (fun v s4 hv => ?_) fun _ _ z => z.elim))
  obtain ⟨x, H4, I4, rx, rfl, rfl⟩ := hv
  obtain ⟨t4, rfl⟩ := rx
  refine ⟨⟨by omega, by omega⟩, (n : Nat), s4.toks, rfl, hlong, ?_⟩
  have eq4 : upd (upd H p (.lst [])) it (ItO l it 0) p = some (.lst []) := by rw [upd_ne (Ne.symm nip), upd_same]
  have J4 : Inv X pins σ (upd (upd H p (.lst [])) it (ItO l it 0)) { s4 with toks := s4.toks + 1 } := I4.tok _
  have last : ∀ s5, Inv X pins σ (upd (upd H p (.lst [])) it (ItO l it 0)) s5 → codeAny (model X.prog X.w) X.A.in1 (.builtin "list.extend.loop" ⟨[.ref p, .ref it, .none], []⟩) (wants (fun r s₂ => r = .none ∧ EP X pins σ Q (.ref p) s₂) X.xe) s5 := fun s5 I5 =>
    lo_loop (A1 := X.A.in1) (H0 := H) (Rs := wants (fun r s₂ => r = .none ∧ EP X pins σ Q (.ref p) s₂) X.xe) (I5.ok.hd hcalm) hq hyz fr fit nip (fun H6 s6 I6 S6 e6 => ⟨rfl, .ref p, H6, I6, rfl, fin H6 p (fun b o e => S6 b o e) fr e6⟩) ys.length 0 _ _ (by omega) (Nat.zero_le _) I5 (fun b o e => S3 b o e) upd_same eq4
  obtain ⟨z, its, kk, r3, hl3, e3⟩ := J4.lstM eq4
  cases r3
  refine wpAny_ite_split (fun _ => ?_) (fun _ => wpAny_pure ⟨plainId_quiet PySem.F.plain_extend_loop _, last _ J4⟩)
  refine wpAny_bind (wpAny_rule ?_)
  refine wpAny_bind ?_
  show wpAny _ _ (updateSeq p (·.push .none) >>= fun _ => updateSeq p (·.pop)) _ _ _
  refine wpAny_bind (wpAny_updateSeq e3 rfl ?_)
  have K2 := J4.lset (f := (·.push Value.none)) (its' := [Value.none]) (ys := [.non]) (t' := s4.toks + 1) eq4 e3 (by simp) (.cons rfl .nil) (by rw [List.length_singleton, sizeLine_eq]; decide)
  obtain ⟨z4, its4, k4, r4, hl4, e4⟩ := K2.lstM upd_same
  obtain ⟨u4, rfl, ru4⟩ := r4.one
  refine wpAny_updateSeq e4 rfl ?_ (by show 1 ≤ sizeLine; rw [sizeLine_eq]; decide) (by show 0 ≤ sizeLine + 1; exact Nat.zero_le _)
  refine wpAny_pure ⟨plainId_quiet PySem.F.plain_extend_loop _, last _ ?_⟩
  have K3 := K2.lset (f := (·.pop)) (its := [u4]) (its' := []) (ys := []) (t' := s4.toks + 1) upd_same e4 (by rfl) .nil (Nat.zero_le _)
  rw [upd_upd] at K3
  have back : ∀ (G : Hp), G p = some (.lst []) → upd G p (.lst []) = G := fun G g => by
    funext b
    by_cases hb : b = p
    · rw [hb, upd_same, g]
    · rw [upd_ne hb]
  rw [back _ eq4] at K3
  exact K3
end
end Rz

namespace Rz
open PySem PySem.Spec PyProof.Rows L2
/-! ### max(list of ints, default=d) -/
section
variable {prog : Program} {w : World} {A : Around} {R : Result → Shared → Prop} {I S : Addr} {f1 wr : List Addr} {n : Nat} {P : Nat → Value → Prop} {St : Nat → Heap → Prop} {kw : List (Str × Value)}
theorem mx_name : (toString "max" ++ toString ".loop" : String) = "max.loop" := by decide
theorem mxd_loop (Wk : Walks prog w A.in1 I f1 wr n P St) (bt : Nat → Nat → Bool) (cmp : CmpOf prog w A.in1 .Gt P bt) (sep : S ∉ f1) : ∀ (k j : Nat) (s : Shared) (best : Value) (c : Nat), n - (j + 1) = k → j + 1 ≤ n → St (j + 1) s.heap → P (argBest bt j) best →
    s.heap.get? S = some { cls := .type "list", dict := none, data := .seq #[best, best] c, slots := #[] } →
    (∀ v h' tk, P (argBest bt (n - 1)) v → (∀ b o, b ∉ wr → b ≠ S → s.heap.get? b = some o → h'.get? b = some o) → R (.ok (.ret v)) { s with heap := h', toks := tk }) → codeAny (model prog w) A (.builtin "max.loop" ⟨[.ref I, .none, .ref S], kw⟩) R s := by
  have sepW : S ∉ wr := fun h => sep (Wk.sub _ h)
  intro k
  induction k with
  | zero =>
    intro j s best c hk hj st pb gS fin
    have last : j + 1 = n := by omega
    refine codeAny_builtin F.entry_max_loop ?_
    rw [Around.under_plainId F.plain_max_loop _]
    show wpAny _ A.in1 (seqItems? (.ref S) >>= _) _ _ s
    refine wpAny_bind (wpAny_seqItems gS rfl ?_)
    show wpAny _ A.in1 (tryCatch (pyNext (.ref I)) _ >>= _) _ _ s
    refine wpAny_bind (wpAny_tryCatch (Wk.done s _ _ (last ▸ st) fun h' tk kk => ?_))
    have gS' := kk S _ sepW gS
    show wpAny _ A.in1 (updateSeq S (fun _ => #[]) >>= _) _ _ _
    refine wpAny_bind ?_
    refine wpAny_updateSeq gS' rfl (wpAny_bind (wpAny_letGo (wpAny_pure ?_)))
    refine fin best _ tk (by rw [← last]; exact pb) fun b o nb nS e => (Heap.get?_update_other _ _ (Ne.symm nS)).trans (kk b o nb e)
  | succ k ih =>
    intro j s best c hk hj st pb gS fin
    have lt : j + 1 < n := by omega
    refine codeAny_builtin F.entry_max_loop ?_
    rw [Around.under_plainId F.plain_max_loop _]
    show wpAny _ A.in1 (seqItems? (.ref S) >>= _) _ _ s
    refine wpAny_bind (wpAny_seqItems gS rfl ?_)
    show wpAny _ A.in1 (tryCatch (pyNext (.ref I)) _ >>= _) _ _ s
    refine wpAny_bind (wpAny_tryCatch (Wk.item (j + 1) s _ _ lt st fun v h' tk pv st' kk => ?_))
    have gS' := kk S _ sepW gS
    show wpAny _ A.in1 (tryCatch (holding [v, v] (richCompare .Gt v best >>= _)) _ >>= _) _ _ _
    refine wpAny_bind (wpAny_tryCatch (wpAny_holding (wpAny_bind (cmp (j + 1) (argBest bt j) v best _ _ _ pv pb ?_))))
    refine wpAny_bind (wpAny_holding (wpAny_truthy_bool ?_))
    refine wpAny_bind (wpAny_letGo (wpAny_pure ?_))
    cases better : bt (j + 1) (argBest bt j) with
    | true =>
      simp only [if_true]
      refine wpAny_bind ?_
      refine wpAny_updateSeq gS' rfl (wpAny_bind (wpAny_letGo ?_))
      rw [mx_name]
      refine wpAny_pure ⟨plainId_quiet F.plain_max_loop _, ih (j + 1) _ v _ (by omega) lt (Wk.frame _ _ _ st' fun b hb o e => (Heap.get?_update_other _ _ (fun h : S = b => sep (by rw [h]; exact hb))).trans e) (by simp only [argBest, better, if_true]; exact pv) (Heap.get?_update_self _ gS' rfl)
        fun v' h2 tk2 pv2 kk2 => fin v' h2 tk2 pv2 fun b o nb nS e => kk2 b o nb nS ((Heap.get?_update_other _ _ (Ne.symm nS)).trans (kk b o nb e))⟩
    | false =>
      simp only [Bool.false_eq_true, if_false]
      refine wpAny_bind (wpAny_letGo ?_)
      rw [mx_name]
      refine wpAny_pure ⟨plainId_quiet F.plain_max_loop _, ih (j + 1) _ best c (by omega) lt st' (by simp only [argBest, better, Bool.false_eq_true, if_false]; exact pb) gS'
        fun v' h2 tk2 pv2 kk2 => fin v' h2 tk2 pv2 fun b o nb nS e => kk2 b o nb nS (kk b o nb e)⟩
theorem mxd_first (Wk : Walks prog w A.in1 I f1 wr n P St) (bt : Nat → Nat → Bool) (cmp : CmpOf prog w A.in1 .Gt P bt) (sep : S ∉ f1) (pos : 0 < n) {s : Shared} {c : Nat} (st : St 0 s.heap)
    (gS : s.heap.get? S = some { cls := .type "list", dict := none, data := .seq #[] c, slots := #[] })
    (fin : ∀ v h' tk, P (argBest bt (n - 1)) v → (∀ b o, b ∉ wr → b ≠ S → s.heap.get? b = some o → h'.get? b = some o) → R (.ok (.ret v)) { s with heap := h', toks := tk }) : codeAny (model prog w) A (.builtin "max.loop" ⟨[.ref I, .none, .ref S], kw⟩) R s := by
  have sepW : S ∉ wr := fun h => sep (Wk.sub _ h)
  refine codeAny_builtin F.entry_max_loop ?_
  rw [Around.under_plainId F.plain_max_loop _]
  show wpAny _ A.in1 (seqItems? (.ref S) >>= _) _ _ s
  refine wpAny_bind (wpAny_seqItems gS rfl ?_)
  show wpAny _ A.in1 (tryCatch (pyNext (.ref I)) _ >>= _) _ _ s
  refine wpAny_bind (wpAny_tryCatch (Wk.item 0 s _ _ pos st fun v h' tk pv st' kk => ?_))
  have gS' := kk S _ sepW gS
  show wpAny _ A.in1 (updateSeq S (fun _ => #[v, v]) >>= _) _ _ _
  refine wpAny_bind ?_
  refine wpAny_updateSeq gS' rfl ?_
  rw [mx_name]
  refine wpAny_pure ⟨plainId_quiet F.plain_max_loop _, mxd_loop Wk bt cmp sep _ 0 _ v _ rfl pos (Wk.frame _ _ _ st' fun b hb o e => (Heap.get?_update_other _ _ (fun h : S = b => sep (by rw [h]; exact hb))).trans e) pv (Heap.get?_update_self _ gS' rfl)
    fun v' h2 tk2 pv2 kk2 => fin v' h2 tk2 pv2 fun b o nb nS e => kk2 b o nb nS ((Heap.get?_update_other _ _ (Ne.symm nS)).trans (kk b o nb e))⟩
theorem mxd_none (Wk : Walks prog w A.in1 I f1 wr 0 P St) (sep : S ∉ f1) {s : Shared} {c : Nat} {x : Str} {d : Value} (st : St 0 s.heap)
    (gS : s.heap.get? S = some { cls := .type "list", dict := none, data := .seq #[] c, slots := #[] })
    (fin : ∀ h' tk, (∀ b o, b ∉ wr → b ≠ S → s.heap.get? b = some o → h'.get? b = some o) → R (.ok (.ret d)) { s with heap := h', toks := tk }) : codeAny (model prog w) A (.builtin "max.loop" ⟨[.ref I, .none, .ref S], [(x, d)]⟩) R s := by
  refine codeAny_builtin F.entry_max_loop ?_
  rw [Around.under_plainId F.plain_max_loop _]
  show wpAny _ A.in1 (seqItems? (.ref S) >>= _) _ _ s
  refine wpAny_bind (wpAny_seqItems gS rfl ?_)
  show wpAny _ A.in1 (tryCatch (pyNext (.ref I)) _ >>= _) _ _ s
  refine wpAny_bind (wpAny_tryCatch (Wk.done s _ _ st fun h' tk kk => ?_))
  exact wpAny_bind (wpAny_rule (wpAny_pure (fin h' tk fun b o nb _ e => kk b o nb e)))
end
section
variable {prog : Program} {w : World} {A : Around} {E : Value → Shared → Prop} {s : Shared} {l : Addr} {xs : Array (Int × Tok)} {d : Value}
theorem mxd_args (a d : Value) : argsOk "max" ⟨[a], [("default", d)]⟩ := by unfold argsOk; kernel_rfl
theorem mxd_entry {Q : Value → Shared → Prop} (h : wpAny (model prog w) A.in1 (pyIter (.ref l)) (fun it s2 => ∃ I f1 wr n P St bt, it = .ref I ∧ Walks prog w A.in1 I f1 wr n P St ∧ St 0 s2.heap ∧ (∀ b ∈ f1, b < s2.heap.objs.size) ∧ CmpOf prog w A.in1 .Gt P bt ∧
      (n = 0 → ∀ h' tk, (∀ b o, b ∉ wr → s2.heap.get? b = some o → h'.get? b = some o) → Q d { s2 with heap := h', toks := tk }) ∧
      (0 < n → ∀ v h' tk, P (argBest bt (n - 1)) v → (∀ b o, b ∉ wr → s2.heap.get? b = some o → h'.get? b = some o) → Q v { s2 with heap := h', toks := tk })) E s) :
    wpAny (model prog w) A (call (.builtin "max") [.ref l] [("default", d)]) Q E s := by
  refine wpAny_call (codeAny_call_builtin F.plain_max F.entry_max ?_)
  have e : checkBuiltinCall "max" ⟨[.ref l], [("default", d)]⟩ = pure () := by
    have ha := mxd_args (.ref l) d
    simp only [checkBuiltinCall, F.kind_max]
    unfold argsOk at ha
    cases hs : Manifest.signature? "max" with
    | none => rfl
    | some sig => rw [hs] at ha; exact ha
  rw [e]
  refine wpAny_pure ?_
  show wpAny _ A.in1 (Builtin.Builtins.bindParams "max" ["key", "default"] 0 ⟨[], [("default", d)]⟩ >>= _) _ _ s
  refine wpAny_bind (wpAny_of_eq (show Builtin.Builtins.bindParams "max" ["key", "default"] 0 ⟨[], [("default", d)]⟩ = pure [none, some d] from rfl) ?_)
  refine wpAny_bind (wpAny_pure ?_)
  refine wpAny_bind (wpAny_mono h (fun it s2 h2 => ?_) fun _ _ e => e)
  obtain ⟨I, f1, wr, n, P, St, bt, rfl, Wk, st, below, cmp, q0, q1⟩ := h2
  refine wpAny_bind (wpAny_newObj_type ?_)
  have sep : s2.heap.objs.size ∉ f1 := fun hm => Nat.lt_irrefl _ (below _ hm)
  rw [mx_name]
  have st2 := Wk.frame _ _ _ st fun b _ o e => Heap.get?_push_of_some { cls := .type "list", data := .seq #[] } e
  rcases Nat.eq_zero_or_pos n with z | pos
  · subst z
    exact wpAny_pure ⟨plainId_quiet F.plain_max_loop _, mxd_none Wk sep st2 (Heap.get?_push_size _ rfl) fun h' tk kk => q0 rfl h' tk fun b o nb e => kk b o nb (Nat.ne_of_lt (Heap.lt_size e)) (Heap.get?_push_of_some _ e)⟩
  · exact wpAny_pure ⟨plainId_quiet F.plain_max_loop _, mxd_first Wk bt cmp sep pos st2 (Heap.get?_push_size _ rfl) fun v h' tk pv kk => q1 pos v h' tk pv fun b o nb e => kk b o nb (Nat.ne_of_lt (Heap.lt_size e)) (Heap.get?_push_of_some _ e)⟩
end
section
variable {X : Cx}
def rMaxDef (K : PySem.W.Frag) : List V → List V → Hp → VK → Prop := fun xs zs H Q => ∃ (l : Addr) (ns : List Int) (d : Int), xs = [.ref l] ∧ zs = [.int d] ∧ SqL K H l (ns.map V.int) ∧ (ns = [] → Q (.int d) H) ∧ (∀ m, m ∈ ns → (∀ y, y ∈ ns → y ≤ m) → Q (.int m) H)
theorem call_maxDef (hc : X.calm = true) : CallRK X (.builtin "max") ["default"] (rMaxDef X.K) := by
  intro pins s σ H xs zs us ws Q I r1 r2 h
  obtain ⟨l, ns, d, rfl, rfl, hs, q0, q1⟩ := h
  obtain ⟨its, rv, hl, _⟩ := I.list hs
  obtain ⟨u, rfl, ru⟩ := vals1 r2
  obtain ⟨td, rfl⟩ := ru
  rw [Vals.ref1 r1]
  have hi := rv.ints
  obtain ⟨as, e⟩ := hi.allInts.items
  have hn : numsOf (intItems as).toList = ns := by rw [← e]; exact hi.numsOf
  rw [nums_intItems] at hn
  subst hn
  have hl2 := hl.isList
  rw [e] at hl2
  show wpAny _ _ (call (.builtin "max") [.ref l] [("default", .int d td)]) _ _ _
  refine mxd_entry (iter_intList hl2 fun s2 e st below hlI => ?_)
  subst e
  refine ⟨_, _, _, _, _, _, _, rfl, Walks.list (A := X.A.in1) (I.ok.hd hc) _ l hlI (intItems as), st, below, CmpOf.ints_gt (numAt as) (fun _ _ => intItems_at), fun hz h' tk kk => ?_, fun pos v h' tk pv kk => ?_⟩
  · have e0 : as.size = 0 := by simpa [intItems] using hz
    exact ⟨.int d, H, I.kept (old_kept kk), ⟨_, rfl⟩, q0 (by rw [Array.eq_empty_of_size_eq_zero e0]; rfl)⟩
  · have p0 : 0 < as.size := by simpa [intItems] using pos
    have pv' : (intItems as)[argBest (fun i j => decide (numAt as i > numAt as j)) (as.size - 1)]? = some v := by simpa [intItems] using pv
    obtain ⟨t, rfl⟩ := intItems_at pv'
    obtain ⟨h1, h2⟩ := argBest_gt (numAt as) (as.size - 1)
    refine ⟨.int _, H, I.kept (old_kept kk), ⟨t, rfl⟩, q1 _ ?_ fun a ha => ?_⟩
    · rw [numAt_eq]
      exact PySem.getD_mem (by rw [List.length_map, Array.length_toList]; omega)
    · obtain ⟨j, hj, rfl⟩ := mem_getD ha
      rw [List.length_map, Array.length_toList] at hj
      rw [← numAt_eq]
      exact h2 j (by omega)
end
end Rz

namespace Rz
open PySem PySem.Spec PyProof.Rows L2
/-! ### rows: pairs of a sign's code and a height -/
abbrev Pr := Nat × Int
def prV (p : Pr) : List V := [.str ⟨#[p.1]⟩, .int p.2]
/-- the tuples ts are the pairs ps -/
def PAt (H : Hp) (ts : List Addr) (ps : List Pr) : Prop := Paired (fun (t : Addr) (p : Pr) => H t = some (.tup (prV p))) ts ps
/-- a list of such tuples -/
def LAt (H : Hp) (l : Addr) (ps : List Pr) : Prop := ∃ ts : List Addr, H l = some (.lst (ts.map V.ref)) ∧ PAt H ts ps
/-- a row: its list stands at l -/
def RAt (cR : Addr) (H : Hp) (p l : Addr) (ps : List Pr) : Prop := ∃ dx, H p = some (.ins cR dx [("_pairs", .ref l)]) ∧ LAt H l ps
/-- signs with heights -/
def GoodR (ps : List Pr) : Prop := ∀ p ∈ ps, oddC p.1 = false ∧ 0 ≤ p.2 ∧ p.2 ≤ 9
def tx (ps : List Pr) : Str := ⟨(ps.map (·.1)).toArray⟩
def hts (ps : List Pr) : List Int := ps.map (·.2)
theorem tx_len (ps : List Pr) : (tx ps).length = ps.length := by
  show (ps.map (·.1)).toArray.size = _
  rw [List.size_toArray, List.length_map]
theorem tx_list (ps : List Pr) : (tx ps).cps.toList = ps.map (·.1) := rfl
theorem hts_len (ps : List Pr) : (hts ps).length = ps.length := List.length_map ..
/-- tuples stay -/
def Tups (H H' : Hp) : Prop := ∀ b xs, H b = some (.tup xs) → H' b = some (.tup xs)
theorem Tups.of {H H' : Hp} (h : Same H H') : Tups H H' := fun b _ e => h b _ e
theorem Tups.but {D : List Addr} {H H' : Hp} (h : But D H H') (n : ∀ d ∈ D, ∀ xs, H d ≠ some (.tup xs)) : Tups H H' := fun b xs e => h b _ (fun hb => n b hb xs e) e
theorem Tups.trans {H H1 H2 : Hp} (a : Tups H H1) (b : Tups H1 H2) : Tups H H2 := fun c xs e => b c xs (a c xs e)
theorem Tups.upd {H H' : Hp} {p : Addr} {o : HO} (a : Tups H H') (n : ∀ xs, H' p ≠ some (.tup xs)) : Tups H (L2.upd H' p o) := fun c xs e => by
  have e1 := a c xs e
  rw [upd_ne (fun z => n xs (by rw [← z]; exact e1))]
  exact e1
theorem PAt.keep {H H' : Hp} (h : Tups H H') : ∀ {ts : List Addr} {ps : List Pr}, PAt H ts ps → PAt H' ts ps
  | _, _, .nil => .nil
  | _, _, .cons e t => .cons (h _ _ e) (PAt.keep h t)
theorem PAt.length {H : Hp} {ts : List Addr} {ps : List Pr} (h : PAt H ts ps) : ts.length = ps.length := Paired.length h
theorem PAt.append {H : Hp} : ∀ {ts us : List Addr} {ps qs : List Pr}, PAt H ts ps → PAt H us qs → PAt H (ts ++ us) (ps ++ qs)
  | _, _, _, _, .nil, s => s
  | _, _, _, _, .cons e t, s => .cons e (PAt.append t s)
theorem PAt.set {H : Hp} {t : Addr} {p : Pr} (e : H t = some (.tup (prV p))) : ∀ {ts : List Addr} {ps : List Pr} (i : Nat), PAt H ts ps → PAt H (ts.set i t) (ps.set i p)
  | _, _, _, .nil => .nil
  | _, _, 0, .cons _ r => .cons e r
  | _, _, i + 1, .cons a r => .cons a (PAt.set e i r)
theorem PAt.rep {H : Hp} {ts : List Addr} {ps : List Pr} (h : PAt H ts ps) : ∀ n : Nat, PAt H (List.replicate n ts).flatten (List.replicate n ps).flatten
  | 0 => .nil
  | n + 1 => by
    rw [List.replicate_succ, List.replicate_succ, List.flatten_cons, List.flatten_cons]
    exact PAt.append h (PAt.rep h n)
theorem PAt.get {H : Hp} : ∀ {ts : List Addr} {ps : List Pr} {i : Nat} {t : Addr}, PAt H ts ps → ts[i]? = some t → ∃ p, ps[i]? = some p ∧ H t = some (.tup (prV p))
  | _, _, i, t, .nil, h => by cases h
  | _, _, 0, t, .cons e r, h => by
    have z := Option.some.inj h
    subst z
    exact ⟨_, rfl, e⟩
  | _, _, i + 1, t, .cons e r, h => PAt.get (i := i) r (by simpa using h)
theorem refs_get {ts : List Addr} {i : Nat} {y : V} (h : (ts.map V.ref)[i]? = some y) : ∃ t, ts[i]? = some t ∧ y = .ref t := by
  rw [List.getElem?_map] at h
  cases e : ts[i]? with
  | none => rw [e] at h; cases h
  | some u => rw [e] at h; exact ⟨u, rfl, (Option.some.inj h).symm⟩
theorem LAt.keep {H H' : Hp} {l : Addr} {ps : List Pr} (h : Tups H H') (e : H' l = H l) (a : LAt H l ps) : LAt H' l ps := let ⟨ts, h1, h2⟩ := a; ⟨ts, e.trans h1, h2.keep h⟩
theorem LAt.same {H H' : Hp} {l : Addr} {ps : List Pr} (h : Same H H') (a : LAt H l ps) : LAt H' l ps := let ⟨ts, h1, h2⟩ := a; ⟨ts, h _ _ h1, h2.keep (.of h)⟩
theorem LAt.at {H : Hp} {l : Addr} {ps : List Pr} (a : LAt H l ps) : ∃ ts : List Addr, H l = some (.lst (ts.map V.ref)) ∧ ts.length = ps.length := let ⟨ts, h1, h2⟩ := a; ⟨ts, h1, h2.length⟩
theorem RAt.same {H H' : Hp} {cR p l : Addr} {ps : List Pr} (h : Same H H') (a : RAt cR H p l ps) : RAt cR H' p l ps := let ⟨dx, h1, h2⟩ := a; ⟨dx, h _ _ h1, h2.same h⟩
theorem RAt.keep {H H' : Hp} {cR p l : Addr} {ps : List Pr} (h : Tups H H') (e : H' p = H p) (e2 : H' l = H l) (a : RAt cR H p l ps) : RAt cR H' p l ps := let ⟨dx, h1, h2⟩ := a; ⟨dx, e.trans h1, h2.keep h e2⟩
/-- what list(zip(signs, heights)) gives -/
theorem zkv_pairs {H : Hp} {ts : List Addr} {x : Str} {ns : List Int} (h : Paired (fun (t : Addr) (u : Key × V) => H t = some (.tup [kV u.1, u.2])) ts (zkv x (ns.map V.int))) : PAt H ts (x.cps.toList.zip ns) := by
  unfold zkv at h
  generalize x.cps.toList = cs at h ⊢
  induction cs generalizing ts ns with
  | nil => cases h; exact .nil
  | cons c cs ih =>
    cases ns with
    | nil => cases h; exact .nil
    | cons n ns =>
      cases h with
      | cons e r => exact .cons e (ih r)
theorem join_signs (ps : List Pr) : Txt.join "" (ps.map fun p => (⟨#[p.1]⟩ : Str)) = tx ps := by
  have h := join0 (ps.map fun p => (⟨#[p.1]⟩ : Str))
  have e : ((ps.map fun p => (⟨#[p.1]⟩ : Str)).map fun y => y.cps.toList).flatten = ps.map (·.1) := by
    rw [List.map_map]
    clear h
    induction ps with
    | nil => rfl
    | cons p ps ih => rw [List.map_cons, List.flatten_cons, ih]; rfl
  rw [e] at h
  generalize Txt.join "" (ps.map fun p => (⟨#[p.1]⟩ : Str)) = j at h
  cases j with
  | mk a =>
    have h2 : a = (ps.map (·.1)).toArray := by
      rw [← h]
    rw [h2]
    rfl
theorem zip_tx {z : Str} {ns : List Int} (h : ns.length = z.length) : (z.cps.toList.zip ns).map (·.1) = z.cps.toList := by
  rw [List.map_fst_zip]
  rw [h]
  exact Nat.le_refl _
theorem zip_hts {z : Str} {ns : List Int} (h : ns.length = z.length) : (z.cps.toList.zip ns).map (·.2) = ns := by
  rw [List.map_snd_zip]
  rw [h]
  exact Nat.le_refl _
theorem tx_hts_zip (ps : List Pr) : (tx ps).cps.toList.zip (hts ps) = ps := by
  rw [tx_list]
  induction ps with
  | nil => rfl
  | cons p ps ih =>
    show (p.1, p.2) :: _ = _
    exact congrArg (p :: ·) ih
/-- a height that is none -/
def badH (n : Int) : Bool := decide (n < 0) || decide (9 < n)
/-- what becomes of Row(z, ns) -/
inductive RR | sign (i : Nat) | uneven | height (n : Int) | row
def rr (z : Str) (ns : List Int) : RR := match fo z with
  | some i => .sign i
  | none => if ns.length ≠ z.length then .uneven else match ns.find? badH with
    | some n => .height n
    | none => .row
theorem rr_good {ps : List Pr} (h : GoodR ps) : rr (tx ps) (hts ps) = .row := by
  have e1 : fo (tx ps) = none := fo_none fun j c hj => by
    rw [tx_list, List.getElem?_map] at hj
    cases e : ps[j]? with
    | none => rw [e] at hj; cases hj
    | some p =>
      rw [e] at hj
      have e2 := Option.some.inj hj
      rw [← e2]
      exact (h p (List.mem_of_getElem? e)).1
  have e2 : (hts ps).find? badH = none := by
    rw [List.find?_eq_none]
    intro n hn
    obtain ⟨p, hp, rfl⟩ := List.mem_map.mp hn
    have h2 := (h p hp).2
    unfold badH
    simp
    omega
  unfold rr
  rw [e1]
  dsimp only
  rw [if_neg (by rw [tx_len, hts_len]; simp), e2]
end Rz
namespace Rz
open PySem PySem.Spec PyProof.Rows L2
/-- a comprehension over such a list -/
theorem lc_pairs {K : PySem.W.Frag} {l : Addr} {ps : List Pr} {g : TG} {te : TE} {vs : List Nat} {σ : L2.St} {H1 : Hp} {D : Addr} {Qd : Hp → Prop} (f : Pr → V) (hL : LAt H1 l ps) (hz : ps.length ≤ sizeLine) (hD : H1 D = none)
    (body : ∀ (t : Addr) (p : Pr) (H : Hp) (Q : VK), p ∈ ps → Same H1 H → H t = some (.tup (prV p)) → (∀ H4, Same H H4 → Q (f p) H4) → g (.ref t) (wipe σ vs) H fun σ2 H2 => wipe σ2 vs = wipe σ vs ∧ te σ2 H2 Q)
    (hd : ∀ H, Same H1 H → H D = some (.lst (ps.map f)) → Qd H) :
    ∃ W : Nat → Nat → Hp → Prop, (∃ m, W 0 m (upd H1 D (.lst []))) ∧ ∀ i m H, W i m H →
      ((Itl K l).stop i H ∧ Qd H) ∨ ((Itl K l).go i H ∧ ∃ Nx : Hp → Prop, (∀ H', Nx H' → ∃ m', m' < m ∧ W (i + 1) m' H') ∧ ∀ x H', (Itl K l).yld i H x H' → g x (wipe σ vs) H' fun σ2 H2 => wipe σ2 vs = wipe σ vs ∧ tYes σ2 H2 fun b H3 =>
        if b = true then te σ2 H3 fun y H4 => ∃ acc, H4 D = some (.lst acc) ∧ acc.length < sizeLine ∧ Nx (upd H4 D (.lst (acc ++ [y]))) else Nx H3) := by
  obtain ⟨ts, hl, hP⟩ := hL
  refine lc_list (K := K) (a := l) (xs := ts.map V.ref) (fun i H => Same H1 H ∧ H D = some (.lst ((ps.take i).map f))) ⟨Rz.Same.new (Same.refl H1) hD, upd_same⟩ (fun i H _ h => SqL.of (h.1 _ _ hl)) (fun i x H hx h => ?_) (fun H h => hd H h.1 ?_)
  · obtain ⟨S, e⟩ := h
    obtain ⟨t, ht, rfl⟩ := refs_get hx
    obtain ⟨p, hp, h2⟩ := hP.get ht
    have hi : i < ps.length := (List.getElem?_eq_some_iff.mp hp).1
    refine body t p H _ (List.mem_of_getElem? hp) S (S _ _ h2) fun H4 S4 => ⟨_, S4 _ _ e, ?_, Rz.Same.upd (S.trans S4) hD, ?_⟩
    · rw [List.length_map, List.length_take]
      omega
    · rw [upd_same, List.take_add_one, hp, List.map_append]
      rfl
  · have := h.2
    rw [List.length_map, hP.length, List.take_length] at this
    exact this
end Rz
namespace Rz
open PySem PySem.Spec PyProof.Rows L2
theorem LAt.but {D : List Addr} {H H' : Hp} {l : Addr} {ps : List Pr} (a : LAt H l ps) (B : But D H H') (n : l ∉ D) (t : Tups H H') : LAt H' l ps := let ⟨ts, h1, h2⟩ := a; ⟨ts, B.at h1 n, h2.keep t⟩
theorem RAt.but {D : List Addr} {H H' : Hp} {cR p l : Addr} {ps : List Pr} (a : RAt cR H p l ps) (B : But D H H') (n1 : p ∉ D) (n2 : l ∉ D) (t : Tups H H') : RAt cR H' p l ps := let ⟨dx, h1, h2⟩ := a; ⟨dx, B.at h1 n1, h2.but B n2 t⟩
theorem LAt.upd {H : Hp} {l q : Addr} {ps : List Pr} {o : HO} (a : LAt H l ps) (n : l ≠ q) (t : ∀ xs, H q ≠ some (.tup xs)) : LAt (L2.upd H q o) l ps := let ⟨ts, h1, h2⟩ := a; ⟨ts, by rw [upd_ne n]; exact h1, h2.keep (Tups.upd (fun _ _ e => e) t)⟩
theorem RAt.upd {H : Hp} {cR p l q : Addr} {ps : List Pr} {o : HO} (a : RAt cR H p l ps) (n1 : p ≠ q) (n2 : l ≠ q) (t : ∀ xs, H q ≠ some (.tup xs)) : RAt cR (L2.upd H q o) p l ps := let ⟨dx, h1, h2⟩ := a; ⟨dx, by rw [upd_ne n1]; exact h1, h2.upd n2 t⟩
theorem Dr.but {D : List Addr} {H H' : Hp} {d : Addr} (a : Dr H d) (B : But D H H') (n : d ∉ D) : Dr H' d := let ⟨ns, h1, h2⟩ := a; ⟨ns, B.at h1 n, h2⟩
theorem Dr.upd {H : Hp} {d q : Addr} {o : HO} (a : Dr H d) (n : d ≠ q) : Dr (L2.upd H q o) d := let ⟨ns, h1, h2⟩ := a; ⟨ns, by rw [upd_ne n]; exact h1, h2⟩
theorem LAt.isL {H : Hp} {l : Addr} {ps : List Pr} (a : LAt H l ps) : ∃ xs, H l = some (.lst xs) := let ⟨ts, h1, _⟩ := a; ⟨_, h1⟩
theorem RAt.isI {H : Hp} {cR p l : Addr} {ps : List Pr} (a : RAt cR H p l ps) : ∃ dx fs, H p = some (.ins cR dx fs) := let ⟨dx, h1, _⟩ := a; ⟨dx, _, h1⟩
theorem RAt.lst {H : Hp} {cR p l : Addr} {ps : List Pr} (a : RAt cR H p l ps) : LAt H l ps := let ⟨_, _, h⟩ := a; h
theorem Dr.isL {H : Hp} {d : Addr} (a : Dr H d) : ∃ xs, H d = some (.lst xs) := let ⟨ns, h1, _⟩ := a; ⟨_, h1⟩
/-- a list and a row stand apart -/
theorem apartLI {H : Hp} {l p cR m : Addr} {ps : List Pr} (h : ∃ xs, H l = some (.lst xs)) (r : RAt cR H p m ps) : l ≠ p := by
  obtain ⟨xs, e⟩ := h
  obtain ⟨dx, fs, e2⟩ := r.isI
  exact ne_of e e2 fun z => nomatch z
theorem apartLT {H : Hp} {l t : Addr} {ys : List V} (h : ∃ xs, H l = some (.lst xs)) (e2 : H t = some (.tup ys)) : l ≠ t := by
  obtain ⟨xs, e⟩ := h
  exact ne_of e e2 fun z => nomatch z
theorem apartNew {H : Hp} {x y : Addr} (h : ∃ o, H x = some o) (n : H y = none) : x ≠ y := let ⟨_, e⟩ := h; ne_of_none e n
theorem LAt.some {H : Hp} {l : Addr} {ps : List Pr} (a : LAt H l ps) : ∃ o, H l = Option.some o := let ⟨ts, h1, _⟩ := a; ⟨_, h1⟩
theorem RAt.some {H : Hp} {cR p l : Addr} {ps : List Pr} (a : RAt cR H p l ps) : ∃ o, H p = Option.some o := let ⟨dx, h1, _⟩ := a; ⟨_, h1⟩
theorem Dr.some {H : Hp} {d : Addr} (a : Dr H d) : ∃ o, H d = Option.some o := let ⟨ns, h1, _⟩ := a; ⟨_, h1⟩
theorem not_tupL {H : Hp} {l : Addr} (h : ∃ xs, H l = some (.lst xs)) : ∀ xs, H l ≠ some (.tup xs) := fun ys e => by
  obtain ⟨xs, e2⟩ := h
  rw [e2] at e
  cases e
theorem not_tupI {H : Hp} {cR p l : Addr} {ps : List Pr} (r : RAt cR H p l ps) : ∀ xs, H p ≠ some (.tup xs) := fun ys e => by
  obtain ⟨dx, fs, e2⟩ := r.isI
  rw [e2] at e
  cases e
theorem not_tupN {H : Hp} {p : Addr} (h : H p = none) : ∀ xs, H p ≠ some (.tup xs) := fun ys e => by
  rw [h] at e
  cases e
theorem tups1 {H H' : Hp} {x : Addr} (B : But [x] H H') (n : ∀ xs, H x ≠ some (.tup xs)) : Tups H H' := Tups.but B fun d hd xs => by
  have e : d = x := by simpa using hd
  rw [e]
  exact n xs
theorem nin1 {x y : Addr} (n : x ≠ y) : x ∉ [y] := by simpa using n
end Rz

namespace Rz
open PySem PySem.Spec PyProof.Rows L2
/-! ### slice objects as values; own classes that are asked with slices -/
theorem sl_ga_slot : Slot "slice" "__getattribute__" "slice.__getattribute__" :=
  .of (owner := "slice") (n := "__getattribute__") (by rw [typeLookup_type, builtinLookup_eq_fast]; kernel_rfl) (by decide +kernel) (by decide +kernel) (by decide +kernel) (by first | exact .inl (by decide +kernel) | exact .inr (by decide +kernel)) (by rw [isSubtype_type]; kernel_rfl)
theorem sl_ga_args (a b : Value) : argsOk "slice.__getattribute__" ⟨[a, b], []⟩ := by unfold argsOk; kernel_rfl
theorem sl_ga_entry : entryFor table "slice.__getattribute__" = some Builtin.«object.__getattribute__» := entryFor_alias (id' := "object.__getattribute__") (by kernel_rfl) (by first | rfl | decide +kernel) (by decide +kernel) (by kernel_rfl)
theorem sl_lk_class : typeLookup (.type "slice") "__class__" = pure (some (.builtin "object.__class__")) := by rw [typeLookup_type, builtinLookup_eq_fast]; kernel_rfl
theorem sl_sub_owner : isSubtype (.type "slice") (.type (".".intercalate ("object.__class__".cutAt '.').dropLast)) = pure true := by rw [F.owner_object_class, isSubtype_type]; kernel_rfl
section
variable {prog : Program} {w : World} {A : Around} {E : Value → Shared → Prop} {h : Heap} {g : Array GenState} {d : Drawn} {t : Nat} {os : OsState} {a : Addr} {o : Obj}
theorem sl_class_get {R : Result → Shared → Prop} (hx : h.get? a = some o) (hc : o.cls = .type "slice") (hq : R (.ok (.ret (.type "slice"))) ⟨h, g, d, t, os⟩) : codeAny (model prog w) A (.call (.builtin "getset_descriptor.__get__") ⟨[.builtin "object.__class__", .ref a, .type "slice"], []⟩) R ⟨h, g, d, t, os⟩ := by
  have hTs : (⟨h, g, d, t, os⟩ : Shared).TypeIs (.ref a) "slice" := ⟨_, hx, hc⟩
  have hTg : (⟨h, g, d, t, os⟩ : Shared).TypeIs (.builtin "object.__class__") "getset_descriptor" := F.typeOf_object_class
  have f1 := sl_sub_owner
  refine codeAny_call_builtin F.slot_gs_get.plain F.entry_gs_get (F.slot_gs_get.check _ _ _ _ _ _ _ _ hTg (F.args_gs_get _ _ _) ?_)
  repeat (any_goals (first | assumption | wp_step))
  refine ⟨Code.quiet_builtin _ (by decide +kernel), codeAny_builtin F.entry_object_class ?_⟩
  repeat (any_goals (first | assumption | wp_step))
theorem sl_class_entry {tk : Tok} {Q : Fin → Shared → Prop} (hx : h.get? a = some o) (hc : o.cls = .type "slice") (hq : Q (.done (.ret (.type "slice"))) ⟨h, g, d, t, os⟩) : wpAny (model prog w) A (Builtin.«object.__getattribute__» ⟨[.ref a, .str "__class__" tk], []⟩) Q E ⟨h, g, d, t, os⟩ := by
  have hTs : (⟨h, g, d, t, os⟩ : Shared).TypeIs (.ref a) "slice" := ⟨_, hx, hc⟩
  have hTg : (⟨h, g, d, t, os⟩ : Shared).TypeIs (.builtin "object.__class__") "getset_descriptor" := F.typeOf_object_class
  have f1 := sl_lk_class
  have f2 := F.typeOf_object_class
  have f3 := F.slot_gs_get.lookup
  have f4 := F.slot_gs_set.lookup
  repeat (any_goals (first | assumption | wp_step))
  refine sl_class_get hx hc ?_
  repeat (any_goals (first | assumption | wp_step))
theorem sl_class_call {tk : Tok} {R : Result → Shared → Prop} (hx : h.get? a = some o) (hc : o.cls = .type "slice") (hq : R (.ok (.ret (.type "slice"))) ⟨h, g, d, t, os⟩) : codeAny (model prog w) A (.call (.builtin "slice.__getattribute__") ⟨[.ref a, .str "__class__" tk], []⟩) R ⟨h, g, d, t, os⟩ :=
  codeAny_call_builtin sl_ga_slot.plain sl_ga_entry (sl_ga_slot.check _ _ _ _ _ _ _ _ (show (⟨h, g, d, t, os⟩ : Shared).TypeIs (.ref a) "slice" from ⟨_, hx, hc⟩) (sl_ga_args _ _) (sl_class_entry hx hc hq))
theorem sl_class_by {tk : Tok} {Q : Value → Shared → Prop} (hx : h.get? a = some o) (hc : o.cls = .type "slice") (hq : Q (.type "slice") ⟨h, g, d, t, os⟩) : wpAny (model prog w) A (getAttrBy (.ref a) (.str "__class__" tk) false) Q E ⟨h, g, d, t, os⟩ := by
  have hTs : (⟨h, g, d, t, os⟩ : Shared).TypeIs (.ref a) "slice" := ⟨_, hx, hc⟩
  have f1 := sl_ga_slot.lookup
  have f2 := sl_ga_slot.bind (.ref a)
  repeat (any_goals (first | assumption | wp_step))
  refine sl_class_call hx hc ?_
  repeat (any_goals (first | assumption | wp_step))
theorem sl_class_attr {Q : Option Value → Shared → Prop} (hx : h.get? a = some o) (hc : o.cls = .type "slice") (hq : Q (some (.type "slice")) ⟨h, g, d, t + 1, os⟩) : wpAny (model prog w) A (getAttr? (.ref a) "__class__") Q E ⟨h, g, d, t, os⟩ := by
  unfold getAttr? getAttrBy?
  repeat (any_goals (first | assumption | with_reducible apply sl_class_by hx hc | wp_step))
end
/-- the slice lo:hi stands at a -/
def SlO (a : Addr) (lo hi : Int) : HO := .ext fun h => ∃ t u, h.IsSliceOf a (.int lo t) (.int hi u) .none
theorem slO_ok {P : Program} {w : World} {H : Hp} {h : Heap} {a : Addr} {lo hi : Int} {t u : Tok} (e : h.IsSliceOf a (.int lo t) (.int hi u) .none) : ObjOk P w H h a (SlO a lo hi) := by
  obtain ⟨o, e1, r⟩ := e
  exact ⟨⟨t, u, o, e1, r⟩, ⟨o, e1⟩, fun h1 h2 ⟨t, u, o, e1, r⟩ k => ⟨t, u, o, k _ e1, r⟩⟩
theorem slO_get {X : Cx} {pins : List (Addr × Obj)} {σ : L2.St} {H : Hp} {s : Shared} {a : Addr} {lo hi : Int} (I : Inv X pins σ H s) (e : H a = some (SlO a lo hi)) : ∃ t u, s.heap.IsSliceOf a (.int lo t) (.int hi u) .none := by
  obtain ⟨p, _, _⟩ := (show ObjOk X.prog X.w H s.heap a (SlO a lo hi) from I.hok a _ e)
  exact p
section
variable {X : Cx} {k : Nat} {f C : Addr} {fd : FuncData} {ps : List Str} {sp : Sp}
/-- isinstance(x, T) of a slice -/
theorem call_isiSl : CallR X (.builtin "isinstance") (fun xs H Q => ∃ (a : Addr) (lo hi : Int) (c : V) (u : Value) (b : Bool), xs = [.ref a, c] ∧ ClsV c u ∧ H a = some (SlO a lo hi) ∧ PySem.W.kitOne X.K (.type "slice") u = some b ∧ Q (.bl b) H) := by
  intro pins s σ H xs us Q I r h
  obtain ⟨a, lo, hi, c, u, b, rfl, kc, ea, e, q⟩ := h
  obtain ⟨u1, u2, rfl, r1, r2⟩ := vals2 r
  have e2 := kc.eq r2
  subst e2
  obtain rfl : u1 = Value.ref a := r1
  obtain ⟨t, u, o, e1, hc, _⟩ := slO_get I ea
  have Z : PySem.W.KitX X.K (.ref a) (.type "slice") (PySem.W.KitAt a "slice") := PySem.W.kitx_of PySem.W.kitAt_ty (fun {_ _ _ _ _ s} p k => by obtain ⟨h, g, d, t, os⟩ := s; obtain ⟨o, h1, h2⟩ := p; exact sl_class_attr h1 h2 k)
  exact PySem.W.kia_one Z I.kIn ⟨o, e1, hc⟩ e (fun z => nomatch z) fun tk => ⟨.bl b, H, I.tok tk, rfl, q⟩
/-- xs[s] of a list, s a slice -/
theorem ix_sliceV : IxR X (fun x y H Q => ∃ (p sl : Addr) (lo hi : Int) (xs : List V), x = .ref p ∧ y = .ref sl ∧ SqL X.K H p xs ∧ H sl = some (SlO sl lo hi) ∧ ∀ q, H q = none → Q (.ref q) (upd H q (.lst (cutV xs (some lo) (some hi))))) := by
  intro value slice pins s σ H x y v u Q I rx ry h hs
  obtain ⟨p, sl, lo, hi, xs, rfl, rfl, hq, es, q⟩ := h
  cases rx
  cases ry
  obtain ⟨t, u, hsl⟩ := slO_get I es
  obtain ⟨its, r, pl, hz⟩ := I.list hq
  have hlen := r.length
  refine tail_any (ops := [.ref p, .ref sl]) pl.isList.typeIs slot_list_getitem.lookup ?_ hs
  refine wpAny_getItem_list_slice pl.isList hsl (.int _ _) (.int _ _) .none (by simp) ?_ (by rw [List.size_toArray] <;> omega)
  rw [slicePick_cut, ← hlen]
  refine ⟨.ref s.heap.objs.size, _, I.laid (t' := s.toks) (o := .lst (cutV xs (some lo) (some hi))) (fun b ob q => Heap.get?_push_of_some _ q) (Nat.le_refl _) ?_, rfl, q _ (I.hok.fresh (Nat.le_refl _))⟩
  exact ⟨Nat.le_trans (cutV_length xs _ _) hz, _, 0, (r.drop _).take _, Heap.get?_push_size _ rfl⟩
/-- xs[s] = ys of lists, s a slice -/
theorem set_sliceV : PSet X (fun o i v H Q => ∃ (l b sl : Addr) (lo hi : Int) (xs ys : List V), o = .ref l ∧ i = .ref sl ∧ v = .ref b ∧ H l = some (.lst xs) ∧ H b = some (.lst ys) ∧ H sl = some (SlO sl lo hi) ∧ l ≠ b ∧ 0 ≤ lo ∧ lo ≤ hi ∧ hi ≤ xs.length ∧ xs.length + ys.length ≤ sizeLine ∧
    Q (upd H l (.lst (xs.take lo.toNat ++ ys ++ xs.drop hi.toNat)))) := by
  intro pins s σ H o i v ov iv u Q I r1 r2 r3 h
  obtain ⟨l, b, sl, lo, hi, xs, ys, rfl, rfl, rfl, hl, hb, es, ne, h0, h1, h2, hz, q⟩ := h
  cases r1
  cases r2
  cases r3
  obtain ⟨t, u, hsl⟩ := slO_get I es
  exact set_slice I hl hb ne hsl ⟨_, rfl⟩ ⟨_, rfl⟩ h0 h1 h2 hz fun s' I' => ⟨_, I', q⟩
variable {e : Expr} {lo hi : Expr} {te : TE} {tl th : TE} {pos p2 : Pos}
theorem sub_own {x : Addr} {h₀ : Heap} {L : Addr} {m : Str → Option Value} {od : Option Obj} {ox : Obj} {prog : Program} {w : World} {A : Around} {E : Value → Shared → Prop} {s : Shared} {K : PySem.W.Frag} {value lo hi : Expr} {i : Value} {Q : Value → Shared → Prop} (hF : Fr h₀ L s.heap m) (hX : K.In h₀) (J : PySem.W.InstAt s.heap x ox C od) (M : Meth K C "__getitem__" f) (hn : PySem.W.noSeq K C = true) (hf : PySem.W.fnIn K f = true)
    (h : wpAny (model prog w) A (call (.ref f) [.ref x, i]) Q E s) : wpAny (model prog w) A (subscriptTail value (.Slice (some lo) (some hi) none p2) (.ref x) i) Q E s := by
  have Y := hX.keeps hF.keep
  unfold PySem.W.fnIn at hf
  split at hf
  · rename_i ef
    unfold subscriptTail getitemInPython
    refine wpAny_bind (wpAny_bind (wpAny_bind (J.type.here ((PySem.W.looks_findIn Y M.at_).here ?_))))
    dsimp only
    refine wpAny_bind (wpAny_load (Y _ _ ef) (wpAny_pure ?_))
    dsimp only
    show wpAny _ _ (operate [i, .ref x] (getItem (.ref x) i) >>= _) _ _ _
    refine wpAny_bind (wpAny_operating (PySem.W.getItem_K hF hX J hn M.at_ M.fn (wpAny_mono h (fun v s' z => ?_) fun _ _ z => z)))
    exact wpAny_bind (wpAny_letTemporaryGo (wpAny_pure z))
  · cases hf
theorem fn_in {x qual : Str} {st : Stmt} {g : Addr} {K : PySem.W.Frag} {gd : FuncData} (F : Fun K x qual st g gd) : PySem.W.fnIn K g = true := by
  obtain ⟨_, _, _, _, _, _, _, _, _, _, lk, _⟩ := F.ex
  unfold PySem.W.fnIn
  rw [lk]
/-- x[lo:hi] by the own __getitem__, nothing is raised -/
def tSlG (C : Addr) (sp : Sp) (te tl th : TE) : TE := fun σ H Q => te σ H fun x H1 => tl σ H1 fun l H2 => ∃ i, l = .int i ∧ th σ H2 fun u H3 => ∃ j, u = .int j ∧ ∃ (a dx : Addr) (fs : List (Str × V)), x = .ref a ∧ H3 a = some (.ins C dx fs) ∧ ∀ sl, H3 sl = none → sp [.ref a, .ref sl] (upd H3 sl (SlO sl i j)) Q E0
theorem pe_sliceG (M : Meth X.K C "__getitem__" f) (hn : PySem.W.noSeq X.K C = true) (hf : PySem.W.fnIn X.K f = true) (G : FnOk X.prog X.w X.K X.mg X.base (L2.CX X.prog X.w) k f fd ps sp) (hr : Room k X.A) (hb : Binds X.K fd ps []) (he : PE X e te) (hl : PE X lo tl) (hu : PE X hi th) : PE X (.Subscript e (.Slice (some lo) (some hi) none p2) pos) (tSlG C sp te tl th) := by
  refine ⟨fun pins s σ H Q I h => ?_⟩
  refine Subscript_ (thn (he.run pins s σ H _ I h) fun v s1 ⟨x, H1, I1, r1, q1⟩ => ?_)
  refine wpAny_Slice ?_
  rw [evalPart_some, evalPart_some, evalPart_none]
  refine thn (hl.run pins s1 σ H1 _ I1 q1) fun vl s2 ⟨l, H2, I2, r2, i, el, q2⟩ => thn (hu.run pins s2 σ H2 _ I2 q2) fun vu s3 ⟨u, H3, I3, r3, j, eu, a, dx, fs, ex, ea, q3⟩ => ?_
  subst el eu ex
  obtain ⟨t2, rfl⟩ := r2
  obtain ⟨t3, rfl⟩ := r3
  obtain rfl : v = Value.ref a := r1
  refine wpAny_pure ?_
  have nsl : H3 s3.heap.objs.size = none := I3.hok.fresh (Nat.le_refl _)
  have I4 := I3.laid (t' := s3.toks) (o := SlO s3.heap.objs.size i j) (fun b ob q => Heap.get?_push_of_some { cls := .type "slice", data := .fields #[.int i t2, .int j t3, .none] } q) (Nat.le_refl _) (slO_ok (Heap.IsSliceOf.new ..))
  have ea4 : upd H3 s3.heap.objs.size (SlO s3.heap.objs.size i j) a = some (.ins C dx fs) := by rw [upd_ne (ne_of_none ea nsl)]; exact ea
  obtain ⟨od, J⟩ := inst_at I4 ea4
  obtain ⟨m0, hF⟩ := I4.fr
  exact sub_own hF I4.ok.mod.kin J M hn hf (run_below (vs := [.ref a, .ref s3.heap.objs.size]) G hr rfl hb I4 (.cons rfl (.cons rfl .nil)) (q3 _ nsl))
/-- x[lo:hi] = v by the own __setitem__, nothing is raised -/
def gSlS (C : Addr) (sp : Sp) (te tl th : TE) : TG := fun v σ H Q => te σ H fun x H1 => tl σ H1 fun l H2 => ∃ i, l = .int i ∧ th σ H2 fun u H3 => ∃ j, u = .int j ∧ ∃ (a dx : Addr) (fs : List (Str × V)), x = .ref a ∧ H3 a = some (.ins C dx fs) ∧ ∀ sl, H3 sl = none → sp [.ref a, .ref sl, v] (upd H3 sl (SlO sl i j)) (fun _ H' => Q σ H') E0
theorem pg_sliceS (M : Meth X.K C "__setitem__" f) (hn : PySem.W.noSeq X.K C = true) (G : FnOk X.prog X.w X.K X.mg X.base (L2.CX X.prog X.w) k f fd ps sp) (hr : Room k X.A) (hb : Binds X.K fd ps []) (he : PE X e te) (hl : PE X lo tl) (hu : PE X hi th) : PG X (.Subscript e (.Slice (some lo) (some hi) none p2) pos) (gSlS C sp te tl th) := by
  refine ⟨fun pins s σ H v w Q I r h => ?_⟩
  show wpAny _ _ (do
    let ov ← holding [w] (eval e X.env)
    let iv ← holding [w, ov] (eval (.Slice (some lo) (some hi) none p2) X.env)
    standAt pos
    holding [w, ov, iv] (setItem ov iv w)
    release [iv, w, ov] []) _ _ _
  refine wpAny_bind (wpAny_holding (thn (he.run pins s σ H _ I h) fun ov s1 ⟨x, H1, I1, r1, q1⟩ => ?_))
  refine wpAny_bind (wpAny_holding (wpAny_Slice ?_))
  rw [evalPart_some, evalPart_some, evalPart_none]
  refine thn (hl.run pins s1 σ H1 _ I1 q1) fun vl s2 ⟨l, H2, I2, r2, i, el, q2⟩ => thn (hu.run pins s2 σ H2 _ I2 q2) fun vu s3 ⟨u, H3, I3, r3, j, eu, a, dx, fs, ex, ea, q3⟩ => ?_
  subst el eu ex
  obtain ⟨t2, rfl⟩ := r2
  obtain ⟨t3, rfl⟩ := r3
  obtain rfl : ov = Value.ref a := r1
  refine wpAny_pure ?_
  have nsl : H3 s3.heap.objs.size = none := I3.hok.fresh (Nat.le_refl _)
  have I4 := I3.laid (t' := s3.toks) (o := SlO s3.heap.objs.size i j) (fun b ob q => Heap.get?_push_of_some { cls := .type "slice", data := .fields #[.int i t2, .int j t3, .none] } q) (Nat.le_refl _) (slO_ok (Heap.IsSliceOf.new ..))
  have ea4 : upd H3 s3.heap.objs.size (SlO s3.heap.objs.size i j) a = some (.ins C dx fs) := by rw [upd_ne (ne_of_none ea nsl)]; exact ea
  obtain ⟨od, J⟩ := inst_at I4 ea4
  obtain ⟨m0, hF⟩ := I4.fr
  refine wpAny_bind (wpAny_standAt (wpAny_bind (wpAny_holding (PySem.W.ksp_setItem hF I4.ok.mod.kin J hn M.at_ M.fn (wpAny_mono (run_below (vs := [.ref a, .ref s3.heap.objs.size, v]) G hr rfl hb I4 (.cons rfl (.cons rfl (.cons r .nil))) (q3 _ nsl)) (fun r s' hv => ?_) fun _ _ z => z)))))
  obtain ⟨z, H', J', rz, q⟩ := hv
  exact wpAny_release ⟨σ, H', J', q⟩
/-- x[i] by the own __getitem__, that may raise -/
def tGetO (C : Addr) (sp : Sp) (E : EX) (te ti : TE) : TE := fun σ H Q => te σ H fun x H1 => ti σ H1 fun i H2 => ∃ (a dx : Addr) (fs : List (Str × V)), x = .ref a ∧ H2 a = some (.ins C dx fs) ∧ sp [.ref a, i] H2 Q (E σ)
theorem pe_getO {CX : CXT} {E : EX} {b : Expr} {ti : TE} (M : Meth X.K C "__getitem__" f) (hf : PySem.W.fnIn X.K f = true) (G : FnOk X.prog X.w X.K X.mg X.base CX k f fd ps sp) (hr : Room (k + 1) X.A) (hb : Binds X.K fd ps []) (hx : ∀ σ, PassesAt CX X σ (E σ)) (he : PE X e te) (hi : PE X b ti)
    (hsl : ∀ x i, subscripted b true (.ref x) i = runValue (.builtin "lifetime.subscript" ⟨[.ref x, i], []⟩) := by intro _ _; rfl) : PE X (.Subscript e b pos) (tGetO C sp E te ti) := by
  refine ⟨fun pins s σ H Q I h => ?_⟩
  refine Subscript_ (thn (he.run pins s σ H _ I h) fun v s1 ⟨x, H1, I1, r1, q1⟩ => thn (hi.run pins s1 σ H1 _ I1 q1) fun u s2 ⟨y, H2, I2, r2, a, dx, fs, ex, ea, q2⟩ => ?_)
  subst ex
  obtain rfl : v = Value.ref a := r1
  obtain ⟨od, J⟩ := inst_at I2 ea
  obtain ⟨m0, hF⟩ := I2.fr
  exact PySem.W.sub_K hF I2.ok.mod.kin J M.at_ hf M.fn (wpAny_call (codeAny_mono (run_X (vs := [.ref a, y]) G hr.in1 rfl hb .nil (hx σ) I2 (.cons rfl (.cons r2 .nil)) (by rw [List.append_nil]; exact q2)) fun _ _ hq => ended hq)) (hsl _ _)
/-- x[i] = v by the own __setitem__, that may raise -/
def gSetX (C : Addr) (sp : Sp) (E : EX) (te ti : TE) : TG := fun v σ H Q => te σ H fun x H1 => ti σ H1 fun i H2 => ∃ (a dx : Addr) (fs : List (Str × V)), x = .ref a ∧ H2 a = some (.ins C dx fs) ∧ sp [.ref a, i, v] H2 (fun _ H' => Q σ H') (E σ)
theorem pg_setX {CX : CXT} {E : EX} {b : Expr} {ti : TE} (M : Meth X.K C "__setitem__" f) (hn : PySem.W.noSeq X.K C = true) (G : FnOk X.prog X.w X.K X.mg X.base CX k f fd ps sp) (hr : Room k X.A) (hb : Binds X.K fd ps []) (hx : ∀ σ, PassesAt CX X σ (E σ)) (he : PE X e te) (hi : PE X b ti)
    (ha : ∀ v, assign (.Subscript e b pos) X.env v = (do
      let ov ← holding [v] (eval e X.env)
      let iv ← holding [v, ov] (eval b X.env)
      standAt pos
      holding [v, ov, iv] (setItem ov iv v)
      release [v, ov, iv] []) := by intro _; rfl) : PG X (.Subscript e b pos) (gSetX C sp E te ti) := by
  refine ⟨fun pins s σ H v w Q I r h => ?_⟩
  rw [ha]
  refine wpAny_bind (wpAny_holding (thn (he.run pins s σ H _ I h) fun ov s1 ⟨x, H1, I1, r1, q1⟩ => ?_))
  refine wpAny_bind (wpAny_holding (thn (hi.run pins s1 σ H1 _ I1 q1) fun iv s2 ⟨y, H2, I2, r2, a, dx, fs, ex, ea, q2⟩ => ?_))
  subst ex
  obtain rfl : ov = Value.ref a := r1
  obtain ⟨od, J⟩ := inst_at I2 ea
  obtain ⟨m0, hF⟩ := I2.fr
  refine wpAny_bind (wpAny_standAt (wpAny_bind (wpAny_holding (PySem.W.ksp_setItem hF I2.ok.mod.kin J hn M.at_ M.fn (wpAny_mono (run_XC (vs := [.ref a, y, v]) G hr hb .nil (hx σ) I2 (.cons rfl (.cons r2 (.cons r .nil))) (by rw [List.append_nil]; exact q2)) (fun r s' hv => ?_) fun _ _ z => z)))))
  obtain ⟨z, H', J', rz, q⟩ := hv
  exact wpAny_release ⟨σ, H', J', q⟩
end
end Rz
namespace Rz
open PySem PySem.Spec PyProof.Rows L2
theorem PAt.nth {H : Hp} : ∀ {ts : List Addr} {ps : List Pr} {i : Nat} {p : Pr}, PAt H ts ps → ps[i]? = some p → ∃ t, ts[i]? = some t ∧ H t = some (.tup (prV p))
  | _, _, i, p, .nil, h => by cases h
  | _, _, 0, p, .cons e r, h => by
    have z := Option.some.inj h
    subst z
    exact ⟨_, rfl, e⟩
  | _, _, i + 1, p, .cons e r, h => PAt.nth (i := i) r (by simpa using h)
theorem ref_nth {ts : List Addr} {i : Nat} {t : Addr} (h : ts[i]? = some t) : (ts.map V.ref)[i]? = some (.ref t) := by
  rw [List.getElem?_map, h]
  rfl
theorem PAt.take {H : Hp} : ∀ {ts : List Addr} {ps : List Pr} (n : Nat), PAt H ts ps → PAt H (ts.take n) (ps.take n)
  | _, _, 0, _ => .nil
  | _, _, _ + 1, .nil => .nil
  | _, _, n + 1, .cons e r => .cons e (PAt.take n r)
theorem PAt.drop {H : Hp} : ∀ {ts : List Addr} {ps : List Pr} (n : Nat), PAt H ts ps → PAt H (ts.drop n) (ps.drop n)
  | _, _, 0, h => h
  | _, _, _ + 1, .nil => .nil
  | _, _, n + 1, .cons _ r => PAt.drop n r
theorem cutV_nat {xs : List V} {i j : Nat} (h : i ≤ j) (hj : j ≤ xs.length) : cutV xs (some (i : Int)) (some (j : Int)) = (xs.drop i).take (j - i) := by
  have e1 : HT.sIx xs.length 0 (some (i : Int)) = i := by
    unfold HT.sIx
    simp only
    rw [if_neg (by omega), Int.toNat_natCast]
    omega
  have e2 : HT.sIx xs.length xs.length (some (j : Int)) = j := by
    unfold HT.sIx
    simp only
    rw [if_neg (by omega), Int.toNat_natCast]
    omega
  unfold cutV
  rw [e1, e2]
end Rz

namespace Rz
open PySem PySem.Spec PyProof.Rows L2
/-! ### lists of pairs: joined, cut, copied, written out; the heap is let go of -/
theorem cutV_to {xs : List V} {j : Nat} (hj : j ≤ xs.length) : cutV xs none (some (j : Int)) = xs.take j := by
  have e1 : HT.sIx xs.length 0 none = 0 := rfl
  have e2 : HT.sIx xs.length xs.length (some (j : Int)) = j := by
    unfold HT.sIx
    simp only
    rw [if_neg (by omega), Int.toNat_natCast]
    omega
  unfold cutV
  rw [e1, e2, List.drop_zero, Nat.sub_zero]
theorem cutV_from {xs : List V} {i : Nat} (hi : i ≤ xs.length) : cutV xs (some (i : Int)) none = xs.drop i := by
  have e1 : HT.sIx xs.length 0 (some (i : Int)) = i := by
    unfold HT.sIx
    simp only
    rw [if_neg (by omega), Int.toNat_natCast]
    omega
  have e2 : HT.sIx xs.length xs.length none = xs.length := rfl
  unfold cutV
  rw [e1, e2, List.take_of_length_le (by rw [List.length_drop]; exact Nat.le_refl _)]
/-- len(xs), list(xs) of a list, by names that are not opened -/
@[irreducible] def rLenS (K : PySem.W.Frag) : List V → Hp → VK → Prop := fun xs H Q => ∃ p ys, xs = [.ref p] ∧ SqL K H p ys ∧ Q (.int ys.length) H
theorem call_lenS {X : Cx} : CallR X (.builtin "len") (rLenS X.K) := by
  intro pins s σ H xs us Q I r h
  unfold rLenS at h
  obtain ⟨p, ys, e, h1, q⟩ := h
  exact call_len_seq pins s σ H xs us Q I r ⟨p, ys, e, .inl h1, q⟩
@[irreducible] def rListS (K : PySem.W.Frag) : List V → Hp → VK → Prop := fun xs H Q => ∃ p ys, xs = [.ref p] ∧ SqL K H p ys ∧ ∀ l, H l = none → Q (.ref l) (upd H l (.lst ys))
theorem call_listS {X : Cx} : CallR X (.type "list") (rListS X.K) := by
  intro pins s σ H xs us Q I r h
  unfold rListS at h
  obtain ⟨p, ys, e, h1, q⟩ := h
  exact call_list_of pins s σ H xs us Q I r ⟨p, ys, e, .inl h1, q⟩
section
variable {K : PySem.W.Frag} {H : Hp} {l m : Addr} {us vs : List Pr} {Q : VK}
theorem cat_go (hu : LAt H l us) (hv : LAt H m vs) (hz : us.length + vs.length ≤ 1000000) (k : ∀ (p : Addr) (H' : Hp), H p = none → Same H H' → LAt H' p (us ++ vs) → Q (.ref p) H') : rCat (.ref l) (.ref m) H Q := by
  obtain ⟨ts, e1, P1⟩ := hu
  obtain ⟨ws, e2, P2⟩ := hv
  refine ⟨l, m, _, _, rfl, rfl, e1, e2, by rw [List.length_map, List.length_map, P1.length, P2.length, sizeLine_eq]; omega, fun p hp => ?_⟩
  have S := Rz.Same.new (o := .lst (ts.map V.ref ++ ws.map V.ref)) (Same.refl H) hp
  exact k p _ hp S ⟨ts ++ ws, by rw [upd_same, List.map_append], (P1.append P2).keep (Tups.of S)⟩
theorem to_go {j : Nat} (hu : LAt H l us) (hj : j ≤ us.length) (k : ∀ (p : Addr) (H' : Hp), H p = none → Same H H' → LAt H' p (us.take j) → Q (.ref p) H') : rSlL K (.ref l) none (some (j : Int)) H Q := by
  obtain ⟨ts, e1, P1⟩ := hu
  refine ⟨l, _, rfl, SqL.of e1, fun p hp => ?_⟩
  have S := Rz.Same.new (o := .lst (cutV (ts.map V.ref) none (some (j : Int)))) (Same.refl H) hp
  exact k p _ hp S ⟨ts.take j, by rw [upd_same, cutV_to (by rw [List.length_map, P1.length]; exact hj), List.map_take], (P1.take j).keep (Tups.of S)⟩
theorem from_go {i : Nat} {σ : L2.St} (hu : LAt H l us) (hi : i ≤ us.length) (k : ∀ (p : Addr) (H' : Hp), H p = none → Same H H' → LAt H' p (us.drop i) → Q (.ref p) H') : tNoPart σ H fun u H3 => rSlL K (.ref l) (some (i : Int)) u H3 Q := by
  obtain ⟨ts, e1, P1⟩ := hu
  refine ⟨l, _, rfl, SqL.of e1, fun p hp => ?_⟩
  have S := Rz.Same.new (o := .lst (cutV (ts.map V.ref) (some (i : Int)) none)) (Same.refl H) hp
  exact k p _ hp S ⟨ts.drop i, by rw [upd_same, cutV_from (by rw [List.length_map, P1.length]; exact hi), List.map_drop], (P1.drop i).keep (Tups.of S)⟩
theorem mid_go {i j : Nat} (hu : LAt H l us) (hij : i ≤ j) (hj : j ≤ us.length) (k : ∀ (p : Addr) (H' : Hp), H p = none → Same H H' → LAt H' p ((us.drop i).take (j - i)) → Q (.ref p) H') : rSlL K (.ref l) (some (i : Int)) (some (j : Int)) H Q := by
  obtain ⟨ts, e1, P1⟩ := hu
  refine ⟨l, _, rfl, SqL.of e1, fun p hp => ?_⟩
  have S := Rz.Same.new (o := .lst (cutV (ts.map V.ref) (some (i : Int)) (some (j : Int)))) (Same.refl H) hp
  exact k p _ hp S ⟨(ts.drop i).take (j - i), by rw [upd_same, cutV_nat hij (by rw [List.length_map, P1.length]; exact hj), List.map_take, List.map_drop], ((P1.drop i).take (j - i)).keep (Tups.of S)⟩
/-- list(xs) -/
theorem copy_go (hu : LAt H l us) (k : ∀ (p : Addr) (H' : Hp), H p = none → Same H H' → LAt H' p us → Q (.ref p) H') : rListS K [V.ref l] H Q := by
  obtain ⟨ts, e1, P1⟩ := hu
  unfold rListS
  refine ⟨l, _, rfl, SqL.of e1, fun p hp => ?_⟩
  have S := Rz.Same.new (o := .lst (ts.map V.ref)) (Same.refl H) hp
  exact k p _ hp S ⟨ts, upd_same, P1.keep (Tups.of S)⟩
/-- len(xs) of such a list -/
theorem len_go (hu : LAt H l us) (k : Q (.int (us.length : Nat)) H) : rLenS K [V.ref l] H Q := by
  obtain ⟨ts, e1, P1⟩ := hu
  unfold rLenS
  exact ⟨l, _, rfl, SqL.of e1, by rw [List.length_map, P1.length]; exact k⟩
end
theorem good_take {ps : List Pr} (h : GoodR ps) (n : Nat) : GoodR (ps.take n) := fun p hp => h p (List.mem_of_mem_take hp)
theorem good_drop {ps : List Pr} (h : GoodR ps) (n : Nat) : GoodR (ps.drop n) := fun p hp => h p (List.mem_of_mem_drop hp)
theorem good_cat {ps qs : List Pr} (h : GoodR ps) (g : GoodR qs) : GoodR (ps ++ qs) := fun p hp => (List.mem_append.mp hp).elim (h p) (g p)
theorem good_put {ps : List Pr} {p : Pr} (h : GoodR ps) (g : oddC p.1 = false ∧ 0 ≤ p.2 ∧ p.2 ≤ 9) (i : Nat) : GoodR (ps.set i p) := fun q hq => (List.mem_or_eq_of_mem_set hq).elim (h q) fun e => by rw [e]; exact g
end Rz
namespace Rz
open PySem PySem.Spec PyProof.Rows L2
/-! ### C(..), its wish by a name that is not opened -/
@[irreducible] def MkR (C : Addr) (sp : Sp) (dvs : List V) (E : XK) (vs : List V) (H : Hp) (Q : VK) : Prop := ∀ x dx, H x = none → H dx = none → dx ≠ x → sp (.ref x :: (vs ++ dvs)) (upd (upd H dx (.own x)) x (.ins C dx [])) (fun v H2 => v = .non ∧ Q (.ref x) H2) E
theorem mkR_eq {C : Addr} {sp : Sp} {dvs : List V} {E : XK} {vs : List V} {H : Hp} {Q : VK} : MkR C sp dvs E vs H Q = ∀ x dx, H x = none → H dx = none → dx ≠ x → sp (.ref x :: (vs ++ dvs)) (upd (upd H dx (.own x)) x (.ins C dx [])) (fun v H2 => v = .non ∧ Q (.ref x) H2) E := by
  unfold MkR
  rfl
def tMkR (C : Addr) (sp : Sp) (dvs : List V) (E : EX) (t : TA) : TE := fun σ H Q => t σ H fun vs H1 => MkR C sp dvs (E σ) vs H1 Q
theorem tMkR_eq {C : Addr} {sp : Sp} {dvs : List V} {E : EX} {t : TA} : tMkR C sp dvs E t = tMk C sp dvs E t := by
  funext σ H Q
  unfold tMkR tMk
  simp only [mkR_eq]
section
variable {X : Cx} {CX : CXT} {k : Nat} {f C : Addr} {fd : FuncData} {ps : List Str} {sp : Sp} {dvs : List V} {ds : List Value} {E : EX} {x : Str} {p pos : Pos} {e : Expr} {es : List Expr} {t : TA}
theorem pe_mkR (M : Mk X.K C f) (F : FnOk X.prog X.w X.K X.mg X.base CX k f fd ps sp) (hr : Room (k + 1) X.A) (hg : Gl X x) (hm : X.mg x = some (.ref C)) (hb : Binds X.K fd ps ds) (hd : Vals dvs ds) (hx : ∀ σ, PassesAt CX X σ (E σ))
    (ha : PA X (e :: es) t) (hdb : (x == ("__debug__" : Str)) = false := by decide) (he : starEach (e :: es) X.env = (false, eval e X.env) :: starEach es X.env := by rfl) (hpl : (backTo pos (starEach es X.env)).any (·.1) = false := by rfl) :
    PE X (.Call (.Name x p) (e :: es) [] pos) (tMkR C sp dvs E t) := by
  rw [tMkR_eq]
  exact pe_mk M F hr hg hm hb hd hx ha hdb he hpl
theorem pe_mkR0 (M : Mk X.K C f) (F : FnOk X.prog X.w X.K X.mg X.base CX k f fd ps sp) (hr : Room (k + 1) X.A) (hg : Gl X x) (hm : X.mg x = some (.ref C)) (hb : Binds X.K fd ps ds) (hd : Vals dvs ds) (hx : ∀ σ, PassesAt CX X σ (E σ))
    (hdb : (x == ("__debug__" : Str)) = false := by decide) : PE X (.Call (.Name x p) [] [] pos) (tMkR C sp dvs E tNil) := by
  rw [tMkR_eq]
  exact pe_mk0 M F hr hg hm hb hd hx hdb
end
end Rz
namespace Rz
open PySem PySem.Spec PyProof.Rows L2
theorem drT {H H' : Hp} {d : Addr} (D : Dr H d) (B : But [d] H H') : Tups H H' := Tups.but B fun b hb xs e => by
  have e2 : b = d := by simpa using hb
  obtain ⟨ns, q, _⟩ := D
  rw [e2, q] at e
  cases e
theorem evC {c : Nat} (h : c ∈ abc.cps.toList) : oddC c = false := by
  unfold oddC
  rw [decide_eq_true h]
  rfl
end Rz

namespace Rz
open PySem PySem.Spec PyProof.Rows L2
/-! ### calls of instances of an own class with __call__ -/
section
variable {X : Cx} {CX : CXT} {k n : Nat} {g C : Addr} {fd : FuncData} {ps ks : List Str} {sp : Sp} {dvs : List V} {ds : List Value} {E : EX} {pos : Pos} {e fe : Expr} {es : List Expr} {kws : List Keyword} {tf : TE} {t tk : TA} {gg : List Value → List Value → List Value} {gV : List V → List V → List V}
def tInst (C : Addr) (sp : Sp) (dvs : List V) (E : EX) (tf : TE) (t : TA) : TE := fun σ H Q => tf σ H fun y H1 => ∃ a, y = V.ref a ∧ t σ H1 fun vs H2 => (∃ dx fs, H2 a = some (.ins C dx fs)) ∧ sp (V.ref a :: (vs ++ dvs)) H2 Q (E σ)
theorem pe_inst (c : StX.CallO X.K C g) (F : FnOk X.prog X.w X.K X.mg X.base CX k g fd ps sp) (hr : Room k X.A) (hb : Binds X.K fd ps ds) (hd : Vals dvs ds) (hx : ∀ σ, PassesAt CX X σ (E σ)) (hf : PE X fe tf) (ha : PA X (e :: es) t)
    (ht : eval (.Call fe (e :: es) [] pos) X.env = (do callWith pos (← eval fe X.env) [] (backTo pos (starEach (e :: es) X.env)) (backToKw pos (keywordEach [] X.env))) := by rfl)
    (he : starEach (e :: es) X.env = (false, eval e X.env) :: starEach es X.env := by rfl) (hpl : (backTo pos (starEach es X.env)).any (·.1) = false := by rfl) : PE X (.Call fe (e :: es) [] pos) (tInst C sp dvs E tf t) := by
  refine ⟨fun pins s σ H Q I h => ?_⟩
  refine Call_ (thn (hf.run pins s σ H _ I h) fun u s1 ⟨y, H1, I1, ry, a, ey, q⟩ => ?_) ht
  subst ey
  obtain rfl : u = Value.ref a := ry
  refine StX.callO_with (thn (ha.run pos pins s1 σ H1 _ I1 q) fun us s2 ⟨vs, H2, I2, r, ⟨dx, fs, hi⟩, q2⟩ => ?_) he hpl
  obtain ⟨ox, od, J, hpd⟩ := StX.insC_at I2 (.inr ⟨dx, fs, hi⟩)
  exact ⟨⟨C, ox, od, J, hpd⟩, wpAny_call (PySem.W.kco_code I2.kIn J hpd c.at_ c.fn c.fi (codeAny_mono (run_X (us := .ref a :: us) (vs := .ref a :: vs) F hr rfl hb hd (hx σ) I2 (.cons rfl r) q2) fun _ _ hq => ended hq))⟩
theorem callO_kw {M : Model} {A : Around} {E : Value → Shared → Prop} {s : Shared} {a : Addr} {Q : Value → Shared → Prop} {args : List (Bool × Sem Value)} {kw : List (Option Str × Sem Value)} (hplain : (args.any (·.1) || kw.any (·.1.isNone)) = false)
    (h : wpAny M A (evalArgs (.ref a) true args kw) (fun z s₁ => (∃ C ox od, PySem.W.InstAt s₁.heap a ox C od ∧ ox.data = .plain) ∧ wpAny M A (call (.ref a) ([] ++ z.pos) z.kw) Q E s₁) E s) : wpAny M A (callWith pos (.ref a) [] args kw) Q E s := by
  unfold callWith
  refine wpAny_bind (wpAny_holding (wpAny_mono h (fun z s₁ h₁ => wpAny_bind (wpAny_standAt ?_)) fun _ _ y => y))
  obtain ⟨⟨C, ox, od, J, hpd⟩, h₂⟩ := h₁
  have L := PySem.W.kco_keeper (M := M) J hpd
  simp only [hplain]
  refine wpAny_bind (L.here ?_)
  have fin : ∀ {t : Sem Value}, wpAny M A t Q E s₁ → wpAny M A (t >>= fun r => holding [r] point >>= fun _ => pure r) Q E s₁ :=
    fun hq => wpAny_bind (wpAny_mono hq (fun r s₂ hr => wpAny_bind (wpAny_holding (wpAny_point (wpAny_pure hr)))) fun _ _ y => y)
  exact fin (wpAny_operateT h₂)
/-- f(e, .., k = v) of an instance -/
def tInstK (C : Addr) (n m : Nat) (sp : Sp) (gV : List V → List V → List V) (E : EX) (tf : TE) (t tk : TA) : TE := fun σ H Q => tf σ H fun y H1 => ∃ a, y = V.ref a ∧ t σ H1 fun vs H2 => tk σ H2 fun zs H3 => (∃ dx fs, H3 a = some (.ins C dx fs)) ∧ vs.length + 1 = n ∧ zs.length = m ∧ sp (gV (V.ref a :: vs) zs) H3 Q (E σ)
theorem pe_instK (c : StX.CallO X.K C g) (F : FnOk X.prog X.w X.K X.mg X.base CX k g fd ps sp) (hr : Room k X.A) (hb : KBn X.K fd ps n ks gg gV) (hx : ∀ σ, PassesAt CX X σ (E σ)) (hf : PE X fe tf) (ha : PA X (e :: es) t) (hkw : PK X kws tk)
    (ht : eval (.Call fe (e :: es) kws pos) X.env = (do callWith pos (← eval fe X.env) [] (backTo pos (starEach (e :: es) X.env)) (backToKw pos (keywordEach kws X.env))) := by rfl)
    (hall : (backToKw pos (keywordEach kws X.env)).all (·.1.isSome) = true := by rfl) (hks : (backToKw pos (keywordEach kws X.env)).filterMap (·.1) = ks := by rfl)
    (he : starEach (e :: es) X.env = (false, eval e X.env) :: starEach es X.env := by rfl) (hpl : ((backTo pos (starEach (e :: es) X.env)).any (·.1) || (backToKw pos (keywordEach kws X.env)).any (·.1.isNone)) = false := by rfl) :
    PE X (.Call fe (e :: es) kws pos) (tInstK C n ks.length sp gV E tf t tk) := by
  refine ⟨fun pins s σ H Q I h => ?_⟩
  rw [ht]
  refine wpAny_bind (thn (hf.run pins s σ H _ I h) fun u s1 ⟨y, H1, I1, ry, a, ey, q⟩ => ?_)
  subst ey
  obtain rfl : u = Value.ref a := ry
  refine callO_kw hpl (evalArgs_kw2 hall (thn (ha.run pos pins s1 σ H1 _ I1 q) fun us s2 ⟨vs, H2, I2, r, q2⟩ => thn (hkw.run pos pins s2 σ H2 _ I2 q2) fun ws s3 ⟨zs, H3, I3, rz, ⟨dx, fs, hi⟩, l1, l2, q3⟩ => ?_) he)
  obtain ⟨ox, od, J, hpd⟩ := StX.insC_at I3 (.inr ⟨dx, fs, hi⟩)
  refine ⟨⟨C, ox, od, J, hpd⟩, wpAny_call (PySem.W.kco_code I3.kIn J hpd c.at_ c.fn c.fi ?_)⟩
  rw [hks]
  have ra : Vals (V.ref a :: vs) (Value.ref a :: us) := .cons rfl r
  refine codeAny_mono (F.run X.A X.stack s3 H3 ⟨.ref a :: us, ks.zip ws⟩ (gg (.ref a :: us) ws) (gV (.ref a :: vs) zs) Q (E σ) hr I3.env0 (hb.to s3 _ ws I3.kIn (by rw [List.length_cons, ← r.length]; exact l1) (rz.length.symm.trans l2)) (hb.rel ra rz) q3) fun q s' hq => ?_
  match q, hq with
  | .error er, hq => exact hx σ pins H3 s3 er s' I3 hq
  | .ok (.ret u), hq => exact I3.after hq
  | .ok .next, hq => exact False.elim hq
  | .ok .brk, hq => exact False.elim hq
  | .ok .cont, hq => exact False.elim hq
end
/-- how keywords bind to a def with defaults and no keyword-only parameter -/
theorem kbinds1 {K : PySem.W.Frag} {x qual : Str} {params : Arguments} {body : List Stmt} {scope : Scope} {dvs : List V} {kws : List (Str × V)} {f : Addr} {fd : FuncData} {ps : List Str} (F : FunD K x qual params body scope dvs kws f fd) (n : Nat) (ks : List Str) (g : {α : Type} → List α → List α → List α → List α) (hd : dvs ≠ [])
    (hrel : ∀ {vs dv zs : List V} {us its ws : List Value}, Vals vs us → Vals dv its → Vals zs ws → Vals (g vs dv zs) (g us its ws))
    (h : ∀ (T : Addr) (kV doc pm : Value) (an : Option Addr) (cdv ct : Value) (us its ws : List Value), us.length = n → its.length = dvs.length → ws.length = ks.length →
      ∃ k, bindArgs (PySem.W.fnOf x qual params body scope (.ref T) kV doc pm an cdv ct) ⟨us, ks.zip ws⟩ = seqItems? (.ref T) >>= k ∧ k (some its.toArray) = pure (ps.zip (g us its ws))) : ∃ its : List Value, KBn K fd ps n ks (fun us ws => g us its ws) (fun vs zs => g vs dvs zs) := by
  obtain ⟨oc, od, dV, kV, doc, pm, an, cdv, ct, osl, rfl, lk, hcd, hD, hK⟩ := F.ex
  rcases hD with ⟨e, _⟩ | ⟨_, T, o, its, m, rfl, lT, oT, rT⟩
  · exact absurd e hd
  · refine ⟨its, ⟨fun s us ws X l1 l2 => ?_, fun r1 r2 => hrel r1 rT r2⟩⟩
    obtain ⟨k, e1, e2⟩ := h T kV doc pm an cdv ct us its ws l1 rT.length.symm l2
    exact PySem.W.binds_K X rfl lT oT e1 e2
end Rz
namespace Rz
open PySem PySem.Spec PyProof.Rows L2
theorem fn_inD {x qual : Str} {params : Arguments} {body : List Stmt} {scope : Scope} {dvs : List V} {kws : List (Str × V)} {g : Addr} {K : PySem.W.Frag} {gd : FuncData} (F : FunD K x qual params body scope dvs kws g gd) : PySem.W.fnIn K g = true := by
  obtain ⟨_, _, _, _, _, _, _, _, _, _, _, lk, _⟩ := F.ex
  unfold PySem.W.fnIn
  rw [lk]
end Rz

namespace Rz
open PySem PySem.Spec PyProof.Rows L2
/-! ### a step of a rule, as lists -/
/-- l stands in cs from i on -/
def fitAt (cs l : List Nat) (i : Int) : Bool := decide (0 ≤ i) && ((cs.drop i.toNat).take l.length == l)
theorem fit_iff {cs l : List Nat} {i : Int} : fitAt cs l i = true ↔ 0 ≤ i ∧ (cs.drop i.toNat).take l.length = l := by
  unfold fitAt
  rw [Bool.and_eq_true, decide_eq_true_iff, beq_iff_eq]
theorem fit_len {cs l : List Nat} {i : Int} (h : fitAt cs l i = true) (hl : l ≠ []) : i.toNat + l.length ≤ cs.length := by
  have e := congrArg List.length (fit_iff.mp h).2
  rw [List.length_take, List.length_drop] at e
  have : 0 < l.length := List.length_pos_iff.mpr hl
  omega
theorem starts_fit {x l : Str} {i : Int} (h0 : 0 ≤ i) (hl : l.cps.toList ≠ []) : Txt.startswith3 x l i = fitAt x.cps.toList l.cps.toList i := by
  unfold Txt.startswith3
  have e1 : PySem.fromIndex x.length i = i.toNat := by
    unfold PySem.fromIndex
    rw [if_neg (by omega)]
    omega
  rw [e1, PySem.StrLaws.subAt_eq]
  unfold fitAt
  rw [decide_eq_true h0, Bool.true_and]
  show (decide (i.toNat + l.length ≤ x.length) && ((x.cps.toList.drop i.toNat).take l.length == l.cps.toList)) = ((x.cps.toList.drop i.toNat).take l.length == l.cps.toList)
  cases e : ((x.cps.toList.drop i.toNat).take l.length == l.cps.toList) with
  | false => rw [Bool.and_false]
  | true =>
    have := fit_len (cs := x.cps.toList) (l := l.cps.toList) (i := i) (fit_iff.mpr ⟨h0, beq_iff_eq.mp e⟩) hl
    rw [decide_eq_true (show i.toNat + l.length ≤ x.length from this), Bool.true_and]
/-- the least number of a list -/
def leastL : List Int → Int
  | [] => 0
  | n :: r => r.foldl min n
theorem foldl_min : ∀ (r : List Int) (n : Int), (r.foldl min n = n ∨ r.foldl min n ∈ r) ∧ r.foldl min n ≤ n ∧ ∀ y ∈ r, r.foldl min n ≤ y
  | [], n => ⟨.inl rfl, Int.le_refl _, fun y h => by cases h⟩
  | x :: r, n => by
    obtain ⟨a, b, c⟩ := foldl_min r (min n x)
    refine ⟨?_, Int.le_trans b (Int.min_le_left ..), fun y hy => ?_⟩
    · rcases a with a | a
      · show (r.foldl min (min n x) = n) ∨ (r.foldl min (min n x) ∈ x :: r)
        rw [a]
        by_cases h : n ≤ x
        · exact .inl (Int.min_eq_left h)
        · right
          rw [Int.min_eq_right (by omega)]
          exact List.mem_cons_self
      · exact .inr (List.mem_cons_of_mem _ a)
    · rcases List.mem_cons.mp hy with rfl | hy
      · exact Int.le_trans b (Int.min_le_right ..)
      · exact c y hy
theorem leastL_eq {ns : List Int} {m : Int} (h : m ∈ ns) (hall : ∀ y ∈ ns, m ≤ y) : m = leastL ns := by
  cases ns with
  | nil => cases h
  | cons n r =>
    obtain ⟨a, b, c⟩ := foldl_min r n
    show m = r.foldl min n
    have h1 : m ≤ r.foldl min n := by
      rcases a with a | a
      · rw [a]
        exact hall n List.mem_cons_self
      · exact hall _ (List.mem_cons_of_mem _ a)
    have h2 : r.foldl min n ≤ m := by
      rcases List.mem_cons.mp h with rfl | h
      · exact b
      · exact c m h
    omega
theorem leastL_mem {ns : List Int} (h : ns ≠ []) : leastL ns ∈ ns := by
  cases ns with
  | nil => exact absurd rfl h
  | cons n r =>
    obtain ⟨a, _, _⟩ := foldl_min r n
    show r.foldl min n ∈ n :: r
    rcases a with a | a
    · rw [a]
      exact List.mem_cons_self
    · exact List.mem_cons_of_mem _ a
/-- the least height of the n pairs from i on -/
def leastAt (ps : List Pr) (i n : Nat) : Int := leastL (hts ((ps.drop i).take n))
theorem leastAt_good {ps : List Pr} {i n : Nat} (g : GoodR ps) (h : i + n ≤ ps.length) (hn : 0 < n) : 0 ≤ leastAt ps i n ∧ leastAt ps i n ≤ 9 := by
  have ne : hts ((ps.drop i).take n) ≠ [] := fun z => by
    have := congrArg List.length z
    rw [hts_len, List.length_take, List.length_drop, List.length_nil] at this
    omega
  have m := leastL_mem ne
  unfold hts at m
  obtain ⟨p, hp, e⟩ := List.mem_map.mp m
  have := (g p (List.mem_of_mem_drop (List.mem_of_mem_take hp))).2
  unfold leastAt hts
  rw [← e]
  exact this
/-- the pairs that the step writes -/
def fresh (r : List Nat) (h : Int) : List Pr := r.map fun c => (c, h)
theorem fresh_len (r : List Nat) (h : Int) : (fresh r h).length = r.length := List.length_map ..
theorem fresh_good {r : List Nat} {h : Int} (hr : ∀ c ∈ r, oddC c = false) (h0 : r ≠ [] → 0 ≤ h ∧ h ≤ 9) : GoodR (fresh r h) := fun p hp => by
  unfold fresh at hp
  obtain ⟨c, hc, rfl⟩ := List.mem_map.mp hp
  exact ⟨hr c hc, h0 (List.ne_nil_of_mem hc)⟩
theorem zip_rep (r : List Nat) (h : Int) : r.zip (List.replicate r.length h) = fresh r h := by
  unfold fresh
  induction r with
  | nil => rfl
  | cons c r ih =>
    rw [List.length_cons, List.replicate_succ, List.zip_cons_cons, ih]
    rfl
/-- the row after the step -/
def stepTo (ps : List Pr) (l r : List Nat) (i : Nat) : List Pr := ps.take i ++ fresh r (1 + leastAt ps i l.length) ++ ps.drop (i + l.length)
theorem fo_even {z : Str} (h : fo z = none) : ∀ c ∈ z.cps.toList, oddC c = false := fun c hc => by
  have := List.findIdx?_eq_none_iff.mp h c hc
  simpa using this
theorem rr_fresh {z : Str} {h : Int} (hz : fo z = none) (h0 : z.cps.toList ≠ [] → 0 ≤ h ∧ h ≤ 9) : rr z (List.replicate z.length h) = .row := by
  unfold rr
  rw [hz]
  dsimp only
  rw [if_neg (by rw [List.length_replicate]; simp)]
  have e : (List.replicate z.length h).find? badH = none := by
    rw [List.find?_eq_none]
    intro n hn
    obtain ⟨hne, rfl⟩ := List.mem_replicate.mp hn
    have h1 := h0 (fun e => hne (by
      have : z.cps.toList.length = 0 := by rw [e]; rfl
      rw [len_list] at this
      exact this))
    unfold badH
    simp
    omega
  rw [e]
theorem nodup_le : ∀ {xs z : List Nat}, xs.Nodup → (∀ x ∈ xs, x ∈ z) → xs.length ≤ z.length
  | [], z, _, _ => Nat.zero_le _
  | x :: xs, z, nd, h => by
    have hx := h x List.mem_cons_self
    have nd2 := List.nodup_cons.mp nd
    have ih := nodup_le (xs := xs) (z := z.erase x) nd2.2 fun y hy => (List.mem_erase_of_ne (fun e => nd2.1 (by rw [← e]; exact hy))).mpr (h y (List.mem_cons_of_mem _ hy))
    rw [List.length_erase_of_mem hx] at ih
    have : 0 < z.length := List.length_pos_of_mem hx
    rw [List.length_cons]
    omega
end Rz

namespace Rz
open PySem PySem.Spec PyProof.Rows L2
/-! ### making an instance whose __init__ has a star; class methods -/
section
variable {P : Program} {w : World} {K : PySem.W.Frag} {mg : Str → Option Value} {base : Heap} {CX : CXT} {k : Nat} {f : Addr} {fd : FuncData} {ps : List Str} {sp : Sp}
/-- the promise of a def that is called by position -/
theorem fnr_of (F : FnOk P w K mg base CX k f fd ps sp) (hb : Binds K fd ps []) : FnR P w K mg base CX k f sp := by
  intro A outer s H us vs Q E hr e0 r h
  have hl : us.length = ps.length := r.length.symm.trans (F.len _ _ _ _ h)
  have hbb := hb s us (e0.mod.kin.keeps fun b o e => (e0.bs b o e).1) (by rw [List.append_nil]; exact hl)
  rw [List.append_nil] at hbb
  exact F.run A outer s H ⟨us, []⟩ us vs Q E hr e0 hbb r h
end
/-- a new instance, by a positional promise of __init__ -/
@[irreducible] def MkS (C : Addr) (sp : Sp) (E : XK) (vs : List V) (H : Hp) (Q : VK) : Prop := ∀ x dx, H x = none → H dx = none → dx ≠ x →
  sp (V.ref x :: vs) (upd (upd H dx (.own x)) x (.ins C dx [])) (fun v H2 => v = .non ∧ Q (.ref x) H2) E
theorem mkS_eq {C : Addr} {sp : Sp} {E : XK} {vs : List V} {H : Hp} {Q : VK} : MkS C sp E vs H Q = ∀ x dx, H x = none → H dx = none → dx ≠ x →
  sp (V.ref x :: vs) (upd (upd H dx (.own x)) x (.ins C dx [])) (fun v H2 => v = .non ∧ Q (.ref x) H2) E := by
  unfold MkS
  rfl
def tMkS (C : Addr) (sp : Sp) (E : EX) (t : TA) : TE := fun σ H Q => t σ H fun vs H1 => MkS C sp (E σ) vs H1 Q
def tMkSL (i : Nat) (C : Addr) (sp : Sp) (E : EX) (t : TA) : TE := fun σ H Q => σ[i]? = some (some (.ref C)) ∧ t σ H fun vs H1 => MkS C sp (E σ) vs H1 Q
/-- C.m(..), m a classmethod -/
def tCm (C : Addr) (sp : Sp) (E : EX) (ta : TE) (t : TA) : TE := fun σ H Q => ta σ H fun x H1 => x = .ref C ∧ t σ H1 fun vs H2 => sp (.ref C :: vs) H2 Q (E σ)
section
variable {X : Cx} {CX : CXT} {k i : Nat} {f C : Addr} {sp : Sp} {E : EX} {x m : Str} {e o : Expr} {es : List Expr} {te ta : TE} {t : TA} {p pos sp_ apos : Pos} {q g : Addr} {mc : Value}
theorem run_fnRA {pins : List (Addr × Obj)} {σ : L2.St} {H : Hp} {s : Shared} {Q : VK} {E : XK} {us : List Value} {vs : List V} (F : FnR X.prog X.w X.K X.mg X.base CX k f sp) (hr : Room k X.A) (hx : PassesAt CX X σ E) (I : Inv X pins σ H s) (r : Vals vs us) (h : sp vs H Q E) :
    codeAny (model X.prog X.w) X.A (.call (.ref f) ⟨us, []⟩) (fun r s' => match r with | .ok (.ret v) => EP X pins σ Q v s' | .ok _ => False | .error e => X.xe e s') s := by
  refine codeAny_mono (F X.A X.stack s H us vs Q E hr I.env0 r h) fun q s' hq => ?_
  match q, hq with
  | .error er, hq => exact hx pins H s er s' I hq
  | .ok (.ret u), hq => exact I.after hq
  | .ok .next, hq => exact False.elim hq
  | .ok .brk, hq => exact False.elim hq
  | .ok .cont, hq => exact False.elim hq
theorem run_mkS {pins : List (Addr × Obj)} {σ : L2.St} {H : Hp} {s : Shared} {Q : VK} {E : XK} {us : List Value} {vs : List V} (M : Mk X.K C f) (F : FnR X.prog X.w X.K X.mg X.base CX k f sp) (hr : Room (k + 1) X.A) (hx : PassesAt CX X σ E) (I : Inv X pins σ H s) (r : Vals vs us)
    (h : MkS C sp E vs H Q) : wpAny (model X.prog X.w) X.A (call (.ref C) us) (EP X pins σ Q) X.xe s := by
  rw [mkS_eq] at h
  have hq := h (s.heap.objs.size + 1) s.heap.objs.size (I.hok.fresh (Nat.le_succ _)) (I.hok.fresh (Nat.le_refl _)) (Nat.ne_of_lt (Nat.lt_succ_self _))
  have I2 := Inv.made (C := C) I
  have r2 : Vals (V.ref (s.heap.objs.size + 1) :: vs) (Value.ref (s.heap.objs.size + 1) :: us) := .cons rfl r
  refine wpAny_call (make_map (f := f) I.kIn M.makes M.init (beq_iff_eq.mp M.fn) (codeAny_mono (F _ X.stack _ _ (Value.ref (s.heap.objs.size + 1) :: us) _ _ E (hr.make C us []) (I2.env0.make C us []) r2 hq) fun r s' hq' => ?_))
  cases r with
  | error e => exact hx pins _ _ e s' I2 hq'
  | ok fl =>
    cases fl with
    | ret u =>
      obtain ⟨v, H', I3, rv, ev, q3⟩ := I2.after hq'
      subst ev
      exact ⟨rv, ⟨V.ref (s.heap.objs.size + 1), H', I3, rfl, q3⟩⟩
    | next => exact False.elim hq'
    | brk => exact False.elim hq'
    | cont => exact False.elim hq'
theorem pe_mkS (M : Mk X.K C f) (F : FnR X.prog X.w X.K X.mg X.base CX k f sp) (hr : Room (k + 1) X.A) (hg : Gl X x) (hm : X.mg x = some (.ref C)) (hx : ∀ σ, PassesAt CX X σ (E σ)) (ha : PA X (e :: es) t) (hdb : (x == ("__debug__" : Str)) = false := by decide)
    (he : starEach (e :: es) X.env = (false, eval e X.env) :: starEach es X.env := by rfl) (hpl : (backTo pos (starEach es X.env)).any (·.1) = false := by rfl) : PE X (.Call (.Name x p) (e :: es) [] pos) (tMkS C sp E t) := ⟨fun pins s σ H Q I h =>
  wpAny_Call_Name_kw (ld_glob I hg hm (PySem.W.callWith_K (h₀ := X.base) I.ok.mod.kin M.kp (thn (ha.run pos pins s σ H _ I h) fun us s1 ⟨vs, H1, J, r, q⟩ => ⟨J.kIn, run_mkS M F hr (hx σ) J r q⟩) he hpl) hdb)⟩
theorem pe_mkS0 (M : Mk X.K C f) (F : FnR X.prog X.w X.K X.mg X.base CX k f sp) (hr : Room (k + 1) X.A) (hg : Gl X x) (hm : X.mg x = some (.ref C)) (hx : ∀ σ, PassesAt CX X σ (E σ)) (hdb : (x == ("__debug__" : Str)) = false := by decide) :
    PE X (.Call (.Name x p) [] [] pos) (tMkS C sp E tNil) := ⟨fun pins s σ H Q I h =>
  wpAny_Call_Name_kw (ld_glob I hg hm (PySem.W.callWith_K0 I.kIn M.kp (run_mkS (us := []) M F hr (hx σ) I .nil h)) hdb)⟩
/-- x() where the local x is the class -/
theorem pe_mkSL0 (M : Mk X.K C f) (F : FnR X.prog X.w X.K X.mg X.base CX k f sp) (hr : Room (k + 1) X.A) (hN : X.N[i]? = some x) (hv : Vis X.env.scope x) (hx : ∀ σ, PassesAt CX X σ (E σ))
    (hdb : (x == ("__debug__" : Str)) = false := by decide) (hcd : (x == ("__classdict__" : Str)) = false := by decide) : PE X (.Call (.Name x p) [] [] pos) (tMkSL i C sp E tNil) := by
  refine ⟨fun pins s σ H Q I h => ?_⟩
  obtain ⟨hs, ht⟩ := h
  refine wpAny_Call_Name_kw (thn ((pe_var (pos := p) hN hv hdb hcd).run pins s σ H (fun v H1 => v = .ref C ∧ H1 = H) I ⟨.ref C, hs, rfl, rfl⟩) fun u s1 ⟨v, H1, I1, r1, q1⟩ => ?_)
  obtain ⟨rfl, rfl⟩ := q1
  cases r1
  exact PySem.W.callWith_K0 I1.kIn M.kp (run_mkS (us := []) M F hr (hx σ) I1 .nil ht)
/-- x(*y) where the local x is the class -/
theorem pe_mkSLs (M : Mk X.K C f) (F : FnR X.prog X.w X.K X.mg X.base CX k f sp) (hr : Room (k + 1) X.A) (hN : X.N[i]? = some x) (hv : Vis X.env.scope x) (hx : ∀ σ, PassesAt CX X σ (E σ)) (he : PE X e te)
    (hdb : (x == ("__debug__" : Str)) = false := by decide) (hcd : (x == ("__classdict__" : Str)) = false := by decide) (hst : starEach [.Starred e sp_] X.env = [(true, eval e X.env)] := by rfl) :
    PE X (.Call (.Name x p) [.Starred e sp_] [] pos) (tMkSL i C sp E fun σ H Q => te σ H fun y H1 => ∃ a xs, y = V.ref a ∧ (SqT X.K H1 a xs ∨ SqL X.K H1 a xs) ∧ Q xs H1) := by
  refine ⟨fun pins s σ H Q I h => ?_⟩
  obtain ⟨hs, ht⟩ := h
  refine wpAny_Call_Name_kw (thn ((pe_var (pos := p) hN hv hdb hcd).run pins s σ H (fun v H1 => v = .ref C ∧ H1 = H) I ⟨.ref C, hs, rfl, rfl⟩) fun u s1 ⟨v, H1, I1, r1, q1⟩ => ?_)
  obtain ⟨rfl, rfl⟩ := q1
  cases r1
  refine PySem.W.callWith_S (h₀ := X.base) I.ok.mod.kin M.kp (thn (he.run pins s1 σ _ _ I1 ht) fun v s2 ⟨y, H2, I2, ry, a, xs, ey, hxs, q⟩ => ?_) hst
  subst ey
  obtain rfl : v = Value.ref a := ry
  exact StX.star_any I2 hxs fun us s3 I3 rv => ⟨I3.kIn, run_mkS M F hr (hx σ) I3 rv q⟩
theorem pe_cm {pl : Sem Bool} (he : PE X o ta) (r : ClX.CRead X.K C mc) (c : ClX.CMet X.K C mc m q g) (F : FnR X.prog X.w X.K X.mg X.base CX k g sp) (hr : Room k X.A) (hx : ∀ σ, PassesAt CX X σ (E σ)) (ha : PA X (e :: es) t)
    (hst : starEach (e :: es) X.env = (false, eval e X.env) :: starEach es X.env := by rfl) (hpl : (backTo pos (starEach es X.env)).any (·.1) = false := by rfl)
    (ht : eval (.Call (.Attribute o m apos) (e :: es) [] pos) X.env = (do
      let ov ← eval o X.env
      standAt apos.atName
      let (f, first) ← holding [ov] (getMethod ov m pl)
      callWith pos f first (backTo pos (starEach (e :: es) X.env)) (backToKw pos (keywordEach [] X.env))) := by rfl) :
    PE X (.Call (.Attribute o m apos) (e :: es) [] pos) (tCm C sp E ta t) := by
  refine ⟨fun pins s σ H Q I h => ?_⟩
  refine PySem.W.methodCall_KW (pl := pl) (thn (he.run pins s σ H _ I h) fun u s1 ⟨x, H1, I1, rx, ex, q⟩ => ?_) ht
  subst ex
  obtain rfl : u = Value.ref C := rx
  refine ClX.getmethcm_ok I1 r c fun s2 I2 => ?_
  refine ClX.callwith_cm I2 (ClX.base_none I1 (Nat.le_refl _)) c.fi (thn (ha.run pos _ s2 σ H1 _ I2 q) fun us s3 ⟨vs, H2, I3, rv, q2⟩ => ⟨⟨ClX.pin_at I3, I3.kIn⟩, ?_⟩) hst hpl
  have z : wpAny (model X.prog X.w) X.A (call (.ref _) us) (EP X ((_, PySem.W.methodObj (.ref g) (.ref C)) :: pins) σ Q) X.xe s3 :=
    wpAny_call (PySem.W.method_call (ClX.pin_at I3) (run_fnRA (us := .ref C :: us) (vs := .ref C :: vs) F hr (hx σ) I3 (.cons rfl rv) q2))
  exact thn z fun _ _ y => ClX.unpinE y
end
end Rz

namespace Rz
open PySem PySem.Spec PyProof.Rows L2
/-! ### iter(t) of a tuple; a comprehension over an own class whose __iter__ gives it -/
/-- at it a tuple's iterator that has not begun -/
def ItT (t it : Addr) : HO := .ext fun h => h.IsTupleIter it t 0
theorem itT_ok {P : Program} {w : World} {H : Hp} {h : Heap} {t it : Addr} (e : h.IsTupleIter it t 0) : ObjOk P w H h it (ItT t it) :=
  ⟨e, let ⟨o, ho, _⟩ := e; ⟨o, ho⟩, fun h1 h2 q k => let ⟨o, ho, r⟩ := q; ⟨o, k _ ho, r⟩⟩
section
variable {prog : Program} {w : World} {A : Around} {E : Value → Shared → Prop} {s : Shared} {t : Addr} {items : Array Value}
theorem iter_tup {Q : Value → Shared → Prop} (hl : s.heap.IsTuple t items) (h : Q (.ref s.heap.objs.size) { s with heap := s.heap.push { cls := .type "tuple_iterator", data := .fields #[.ref t, .int 0 0] } }) : wpAny (model prog w) A (call (.builtin "iter") [.ref t]) Q E s := by
  refine Calls.call_function_entry (by decide +kernel) (by decide +kernel) PySem.W.kdk_entry_iter (PySem.W.kdk_args_iter _) ?_
  unfold Builtin.«iter»
  refine wpAny_bind (m := someArgs "iter" 1 2 _) (wpAny_of_eq (a := [Value.ref t]) (by first | rfl | kernel_rfl!) ?_)
  show wpAny _ _ (pyIter (.ref t) >>= _) _ _ _
  refine wpAny_bind (wpAny_pyIter_tuple hl ?_)
  exact wpAny_pure ⟨_, rfl, h⟩
end
def rIterT (K : PySem.W.Frag) (n : Nat) : List V → Hp → VK → Prop := fun xs H Q => ∃ (t : Addr) (zs : List V), xs = [.ref t] ∧ SqT K H t zs ∧ ∀ it, H it = none → n ≤ it → Q (.ref it) (upd H it (ItT t it))
section
variable {X : Cx}
theorem call_iterT : CallR X (.builtin "iter") (rIterT X.K X.s_0.heap.objs.size) := by
  intro pins s σ H xs us Q I r h
  obtain ⟨l, zs, rfl, hq, q⟩ := h
  obtain ⟨u, rfl, ru⟩ := vals1 r
  cases ru
  obtain ⟨its, rv, pl, hz⟩ := I.tuple hq
  refine iter_tup (show s.heap.IsTuple l its.toArray from pl) ?_
  exact ⟨.ref s.heap.objs.size, _, I.laid (t' := s.toks) (fun b u e => Heap.get?_push_of_some _ e) (Nat.le_refl _) (itT_ok ⟨_, Heap.get?_push_size _ rfl, rfl, rfl⟩), rfl, q _ (I.hok.fresh (Nat.le_refl _)) I.sz⟩
end
/-- the def gives a new iterator of the tuple at t -/
def IterOk (P : Program) (w : World) (K : PySem.W.Frag) (mg : Str → Option Value) (base : Heap) (k : Nat) (f : Addr) (pre : Addr → Addr → Hp → Prop) : Prop :=
  ∀ (A : Around) (outer : List Env) (s : Shared) (H : Hp) (a t : Addr), Room k A → Env0 P w K mg base A outer s H → pre a t H →
    codeAny (model P w) A (.call (.ref f) ⟨[.ref a], []⟩) (fun q s' => match q with
      | .ok (.ret u) => CE outer P w H s (fun v H' => ∃ it, v = .ref it ∧ s.heap.objs.size ≤ it ∧ H it = none ∧ H' = upd H it (ItT t it)) u s'
      | .ok _ => False
      | .error e => L2.CX P w outer H s E0 e s') s
theorem iter_of {P : Program} {w : World} {K : PySem.W.Frag} {mg : Str → Option Value} {base : Heap} {k : Nat} {x qual : Str} {st : Stmt} {f : Addr} {fd : FuncData} {N ps : List Str} {pre : Addr → Addr → Hp → Prop} {e : Expr} {p2 : Pos} (F : Fun K x qual st f fd) (S : FnScope N ps (defScope st))
    (hb : Binds K fd ps []) (hl : ps.length = 1) (hst : defBody st = [.Return (some e) p2])
    (hbody : ∀ (cdv : Value) (A : Around) (outer : List Env) (s : Shared) (H : Hp) (a t : Addr), Room k (A.deeper (envOfC qual (defScope st) s.heap.objs.size f cdv)) → pre a t H →
      ∃ te, PE (cxOf (L2.CX P w) P w K mg base N qual (defScope st) f cdv A outer s H E0) e te ∧ te (start N [.ref a]) H (fun v H' => ∃ it, v = .ref it ∧ s.heap.objs.size ≤ it ∧ H it = none ∧ H' = upd H it (ItT t it))) : IterOk P w K mg base (k + 1) f pre := by
  intro A outer s H a t hr e0 hpre
  have KX : K.In s.heap := e0.mod.kin.keeps fun b o e => (e0.bs b o e).1
  have hbb := hb s [.ref a] KX (by rw [List.append_nil]; exact hl.symm)
  rw [List.append_nil] at hbb
  obtain ⟨oc, od, kV, doc, pm, an, cdv, ct, osl, rfl, lk, hcd⟩ := F.ex
  have lim : s.heap.NoLimit := e0.mod.nolimit.keeps fun b o e => (e0.bs b o e).1
  have hkind : ∀ y ∈ ps.zip [Value.ref a], (defScope st).names.lookup y.1 = some .local ∨ ((defScope st).names.lookup y.1 = some .cell ∧ ((cellsFrom (s.heap.objs.size + 1) (defScope st).names []).lookup y.1).isSome = true) := fun ⟨n, v⟩ hy => by
    rcases S.par n (List.of_mem_zip hy).1 with q | q
    · exact .inl q
    · exact .inr ⟨q, PySem.W.cellsFrom_some _ _ _ (.inl q)⟩
  refine codeAny_call_function hr.depth (KX _ _ lk) rfl S.co S.gen rfl (PySem.W.codeRec_of KX hcd) (hbb _ _ _ _ ?_)
  refine wpAny_newFunctionEnv_cells S.kind hkind fun env he s1 xx => ?_
  subst he
  refine ⟨lim.keeps xx.toInCall.keep, codeAny_func ?_⟩
  obtain ⟨te, hc, hq⟩ := hbody cdv A outer s H a t (hr.deeper _) hpre
  have I : Inv (cxOf (L2.CX P w) P w K mg base N qual (defScope st) f cdv A outer s H E0) [] (start N [.ref a]) H s1 := inv_start S hr.hd e0 (by rw [hl]; rfl) (.cons rfl .nil) xx
  show wpAny _ _ (execs (defBody st) _) _ _ _
  rw [hst]
  refine wpAny_execs_cons (wpAny_Return_some (wpAny_mono (hc.run [] s1 (start N [.ref a]) H _ I hq) (fun b s2 hs => ?_) (fun e s' hs => ?_)))
  · obtain ⟨v, H2, I2, rv, hv⟩ := hs
    exact ⟨v, H2, I2.os, I2.bare, I2.base, I2.hok, rv, hv⟩
  · exact hs
/-- a comprehension or a loop over such an instance -/
def iOwnT (K : PySem.W.Frag) (C : Addr) (pre : Addr → Addr → Hp → Prop) (te : TE) : TI := fun σ H R => te σ H fun x H1 => ∃ a t dx fs xs, x = .ref a ∧ H1 a = some (.ins C dx fs) ∧ pre a t H1 ∧ SqT K H1 t xs ∧ R (Itt K t) H1
section
variable {X : Cx} {tg e : Expr} {te : TE} {C f : Addr} {k : Nat} {pre : Addr → Addr → Hp → Prop}
theorem pi_ownT (M : Meth X.K C "__iter__" f) (F : IterOk X.prog X.w X.K X.mg X.base k f pre) (hr : Room k X.A) (he : PE X e te) : PI X tg e (iOwnT X.K C pre te) := by
  refine ⟨fun pins s σ H R I h => ?_⟩
  refine thn (he.run pins s σ H _ I h) fun v s1 ⟨x, H1, I1, r1, q1⟩ => ?_
  obtain ⟨a, t, dx, fs, xs, ex, ea, hp, ht, q⟩ := q1
  subst ex
  obtain rfl : v = Value.ref a := r1
  obtain ⟨od, J⟩ := inst_at I1 ea
  obtain ⟨m0, hF⟩ := I1.fr
  refine PySem.W.owit_iter hF I1.ok.mod.kin J M.at_ M.fn (wpAny_call (codeAny_mono (F X.A X.stack s1 H1 a t hr I1.env0 hp) fun r s' hq => ?_))
  match r, hq with
  | .error er, hq =>
    obtain ⟨_, _, _, _, _, _, _, _, _, _, _, _, z⟩ := hq
    exact z.elim
  | .ok .next, hq => exact False.elim hq
  | .ok .brk, hq => exact False.elim hq
  | .ok .cont, hq => exact False.elim hq
  | .ok (.ret u), hq =>
    obtain ⟨v, H', I2, rv, it, rfl, young, hn, rfl⟩ := I1.after hq
    obtain rfl : u = Value.ref it := rv
    have hit : upd H1 it (ItT t it) it = some (ItT t it) := upd_same
    have st : s'.heap.IsTupleIter it t 0 := (I2.hok it _ hit).1
    have hit2 := hit
    unfold ItT at hit2
    unfold PySem.W.OwitIt
    refine wpAny_specialOf (name := Str.ofString "__next__") st.typeIs slot_tupleiter_next.lookup ?_
    have I3 := ItX.inv_drop I2 hit2
    have fp := ItX.inv_fp I2 hit2 (Nat.le_trans I1.sz young)
    have eH : ItX.dropH (upd H1 it (ItT t it)) it = H1 := ItX.dropH_upd hn
    rw [eH] at I3 fp
    refine ⟨it, [it], _, _, H1, rfl, I3, turn_tuple t it, st, fun b hb => ?_, q⟩
    have e : b = it := by simpa using hb
    rw [e]
    exact fp
end
end Rz

namespace Rz
open PySem PySem.Spec PyProof.Rows L2
/-! ### set(text) -/
/-- the set at a has the texts l, its table can be walked -/
def SsAt (P : Program) (w : World) (h : Heap) (a : Addr) (l : List Str) : Prop :=
  ∃ D : PySem.Froz.SD, h.get? a = some (PySem.Froz.sObj "set" D) ∧ PySem.Froz.TxOk P w D l ∧ l.Nodup ∧ Ris D.2.2.place.toList ∧ (w.params.followText "set-order" = true ∨ D.2.2.led = true)
theorem SsAt.keep {P : Program} {w : World} {h h' : Heap} {a : Addr} {l : List Str} (x : SsAt P w h a l) (k : ∀ o, h.get? a = some o → h'.get? a = some o) : SsAt P w h' a l := let ⟨D, e, r⟩ := x; ⟨D, k _ e, r⟩
theorem tail_ris {ep : Nat} {es : Array (Int × Value)} {t : SetTable} {dm : Bool} (r : Ris t.place.toList) : Ris (PySem.Froz.tailTx ep es t dm).2.2.place.toList := by
  unfold PySem.Froz.tailTx
  split
  · exact relayAll_ris _ _ _
  · exact r
theorem tail_led {ep : Nat} {es : Array (Int × Value)} {t : SetTable} {dm : Bool} : (PySem.Froz.tailTx ep es t dm).2.2.led = t.led := by
  unfold PySem.Froz.tailTx
  split
  · exact relayAll_led _ _ _
  · rfl
theorem add_ris {D : PySem.Froz.SD} {h : Int} {v : Value} (r : Ris D.2.2.place.toList) : Ris (PySem.Froz.addTx h v D).2.2.place.toList := by
  have q := layNew_ris D.2.2 D.1 h v r
  refine tail_ris ?_
  split
  · exact q
  · exact q
theorem add_led {D : PySem.Froz.SD} {h : Int} {v : Value} : (PySem.Froz.addTx h v D).2.2.led = D.2.2.led := by
  have q := layNew_led D.2.2 D.1 h v
  refine tail_led.trans ?_
  split
  · exact q
  · exact q
section
variable {P : Program} {w : World} {A : Around} {E : Value → Shared → Prop} {s : Shared}
/-- a text that is there is added -/
theorem add_stay {a : Addr} {T : String} {D : PySem.Froz.SD} {l : List Str} {k : Str} {u : Tok} {Q : Bool → Shared → Prop} (ho : s.heap.get? a = some (PySem.Froz.sObj T D)) (F : PySem.Froz.TxOk P w D l) (hk : k ∈ l) (hb : l.length < scanBound) (h : Q false s) :
    wpAny (model P w) A (setAddHashed a (.str k u) (hashStr w k)) Q E s := by
  obtain ⟨es, ep, t⟩ := D
  have hsz : es.size = l.length := F.sz
  have kk : (strKind P w).is k (.str k u) = true := PySem.Froz.is_str k u
  obtain ⟨e, he, hp⟩ := (F.mem k).mp hk
  unfold setAddHashed setAddHashedIn
  refine wpAny_holding (wpAny_bind (wpAny_setState_of ho rfl F.fit ?_))
  dsimp only
  rw [byScan_of rfl (show es.size < scanBound by rw [hsz]; exact hb) F.el]
  simp only [↓reduceIte]
  unfold setAddByScan
  refine wpAny_bind (wpAny_bind (wpAny_rule (wpAny_bind (wpAny_setScan_of (knd := strKind P w) (k := k) kk ho rfl F.fit F.el ?_))))
  cases fi : List.findIdx? (fun e => (strKind P w).is k e.2) es.toList with
  | none => exact absurd (List.findIdx?_eq_none_iff.mp fi e he) (by rw [hp]; decide)
  | some j =>
    dsimp only
    exact wpAny_pure (wpAny_pure h)
theorem ss_add {a : Addr} {l : List Str} {k : Str} {u : Tok} {Q : Bool → Shared → Prop} (x : SsAt P w s.heap a l) (hb : l.length + 1 < scanBound)
    (h : ∀ (h' : Heap) (l' : List Str) (b : Bool), SsAt P w h' a l' → (∀ y, y ∈ l' ↔ y = k ∨ y ∈ l) → l'.length ≤ l.length + 1 → (∀ c o, c ≠ a → s.heap.get? c = some o → h'.get? c = some o) → Q b { s with heap := h' }) :
    wpAny (model P w) A (setAddHashed a (.str k u) (hashStr w k)) Q E s := by
  obtain ⟨D, ho, F, nd, r, led⟩ := x
  by_cases hk : k ∈ l
  · refine add_stay ho F hk (by omega) ?_
    exact h s.heap l false ⟨D, ho, F, nd, r, led⟩ (fun y => ⟨.inr, fun z => z.elim (fun e => e ▸ hk) id⟩) (by omega) fun c o _ e => e
  · refine PySem.Froz.add_x ho F hk hb ?_
    refine h _ (k :: l) true ⟨_, PySem.Froz.get_upd _ ho rfl, PySem.Froz.add_ok u F, List.nodup_cons.mpr ⟨hk, nd⟩, add_ris r, led.imp id fun z => add_led.trans z⟩ (fun y => List.mem_cons) (Nat.le_refl _) fun c o n e => ?_
    exact PySem.Heap.get?_update_of_ne _ (Ne.symm n) e
/-- the signs of x ahead of i -/
def upTo (x : Str) (i : Nat) (k : Str) : Prop := ∃ j c, j < i ∧ x.cps[j]? = some c ∧ k = ⟨#[c]⟩
theorem ss_loop {R : Result → Shared → Prop} {I a : Addr} {x : Str} {t : Tok} (hh : A.in1.handled = none) (ne : a ≠ I) (hz : x.cps.size + 1 < scanBound) : ∀ (k i : Nat) (s : Shared) (l : List Str), x.cps.size - i = k → i ≤ x.cps.size → s.heap.IsStrIter I "str_ascii_iterator" x t i →
    SsAt P w s.heap a l → (∀ y, y ∈ l ↔ upTo x i y) → l.length ≤ i →
    (∀ (h' : Heap) (tk : Nat) (l' : List Str), SsAt P w h' a l' → (∀ y, y ∈ l' ↔ upTo x x.cps.size y) → l'.length ≤ x.cps.size → (∀ c o, c ≠ a → c ≠ I → s.heap.get? c = some o → h'.get? c = some o) → R (.ok (.ret .none)) { s with heap := h', toks := tk }) →
    codeAny (model P w) A (.builtin "set.update.loop" ⟨[.ref a, .ref I], []⟩) R s := by
  have W := Walks.strAscii (prog := P) (w := w) hh I x t
  intro k
  induction k with
  | zero =>
    intro i s l hk hi st hS hm hl hR
    obtain rfl : i = x.cps.size := by omega
    refine codeAny_builtin PyProof.Rows.F.entry_set_update_loop ?_
    rw [Around.under_plainId PyProof.Rows.F.plain_set_update_loop _]
    show wpAny _ A.in1 (pyNext (.ref I) >>= _) _ _ s
    refine wpAny_bind (W.done s _ _ st fun h' tk kp => ?_)
    show wpAny _ A.in1 (ret Value.none) _ _ _
    exact wpAny_pure (hR h' tk l (hS.keep fun o e => kp a o (by simpa using ne) e) hm hl fun c o _ n2 e => kp c o (by simpa using n2) e)
  | succ k ih =>
    intro i s l hk hi st hS hm hl hR
    refine codeAny_builtin PyProof.Rows.F.entry_set_update_loop ?_
    rw [Around.under_plainId PyProof.Rows.F.plain_set_update_loop _]
    show wpAny _ A.in1 (pyNext (.ref I) >>= _) _ _ s
    refine wpAny_bind (W.item i s _ _ (by omega) st fun v h1 tk ⟨c, u, hc, ev⟩ st1 kp => ?_)
    subst ev
    show wpAny _ A.in1 (holding [Value.str ⟨#[c]⟩ u] (setAdd a (.str ⟨#[c]⟩ u)) >>= _) _ _ _
    refine wpAny_bind (wpAny_holding ?_)
    unfold setAdd
    refine wpAny_holding (wpAny_bind ((strKind P w).pyHash (k := ⟨#[c]⟩) (PySem.Froz.is_str _ _) ?_))
    refine ss_add (s := { s with heap := h1, toks := tk + 1 }) (l := l) (hS.keep fun o e => kp a o (by simpa using ne) e) (by omega) fun h2 l2 b hS2 hm2 hl2 kp2 => ?_
    have st2 : h2.IsStrIter I "str_ascii_iterator" x t (i + 1) := W.frame (i + 1) h1 h2 st1 fun b hb o e => kp2 b o (by
      have z : b = I := by simpa using hb
      rw [z]
      exact Ne.symm ne) e
    refine wpAny_pure ⟨plainId_quiet PyProof.Rows.F.plain_set_update_loop _, ih (i + 1) { s with heap := h2, toks := tk + 1 } l2 (by omega) (by omega) st2 hS2 (fun y => ?_) (by omega) fun h3 tk3 l3 hS3 hm3 hl3 kp3 => ?_⟩
    · rw [hm2, hm]
      constructor
      · rintro (rfl | ⟨j, d, hj, hd, rfl⟩)
        · exact ⟨i, c, by omega, hc, rfl⟩
        · exact ⟨j, d, by omega, hd, rfl⟩
      · rintro ⟨j, d, hj, hd, rfl⟩
        rcases Nat.lt_or_ge j i with h | h
        · exact .inr ⟨j, d, h, hd, rfl⟩
        · obtain rfl : j = i := by omega
          rw [hc] at hd
          cases hd
          exact .inl rfl
    · exact hR h3 tk3 l3 hS3 hm3 hl3 fun d o n1 n2 e => kp3 d o n1 n2 (kp2 d o n1 (kp d o (by simpa using n2) e))
/-- a set just made -/
abbrev frS (w : World) : Obj := { cls := .type "set", dict := none, data := .set #[] 0 (.fresh 0 0 (!w.params.followText "set-order")) }
theorem ss_fresh {h : Heap} {a : Addr} (e : h.get? a = some (frS w)) : SsAt P w h a [] := by
  refine ⟨(#[], 0, .fresh 0 0 (!w.params.followText "set-order")), e, PySem.Froz.TxOk.nil (by rfl), .nil, List.Pairwise.nil, ?_⟩
  show _ ∨ (!w.params.followText "set-order") = true
  cases w.params.followText "set-order"
  · exact .inr rfl
  · exact .inl rfl
/-- set(x) of a text of the plain signs -/
theorem call_setTx {x : Str} {t : Tok} {Q : Value → Shared → Prop} (hh : A.handled = none) (hx : x.cps.all (· < 128) = true) (hz : x.cps.size + 1 < scanBound)
    (h : ∀ (h' : Heap) (tk : Nat) (l : List Str), SsAt P w h' s.heap.objs.size l → (∀ y, y ∈ l ↔ upTo x x.cps.size y) → l.length ≤ x.cps.size → (∀ b o, s.heap.get? b = some o → h'.get? b = some o) → Q (.ref s.heap.objs.size) { s with heap := h', toks := tk }) :
    wpAny (model P w) A (call (.type "set") [.str x t]) Q E s := by
  obtain ⟨c, tl, hmro⟩ := PySem.F.called_set.mro
  have cm := PySem.F.called_set.made
  have cs := PySem.F.called_set.sub
  refine wpAny_call (codeAny_of_tree ?_)
  show wpAny _ _ (callAny (.type "set") _) _ _ _
  refine wpAny_pure ⟨Code.quiet_builtin _ (by decide +kernel), codeAny_builtin PySem.F.entry_type_call ?_⟩
  rw [Around.under_plain (weight_type_call_type "set" [.str x t] []) rfl]
  have cn := PySem.F.called_set.notType
  have cc := PySem.F.called_set.canCreate
  have ct := PySem.F.typeCall_set_1 (.str x t)
  repeat (any_goals (first | assumption | wp_step))
  refine codeAny_mono (code_set_led1 (.str x t) (E := E) (Q₁ := fun u s1 => u = .ref s.heap.objs.size ∧ s1 = { s with heap := s.heap.push (frS w) }) ⟨rfl, rfl⟩) fun r s1 hr => ?_
  match r, hr with
  | .error e, hr => exact hr
  | .ok .next, hr => exact hr.elim
  | .ok .brk, hr => exact hr.elim
  | .ok .cont, hr => exact hr.elim
  | .ok (.ret u), hr =>
    obtain ⟨rfl, rfl⟩ := hr
    have at0 : (s.heap.push (frS w)).get? s.heap.objs.size = some (frS w) := Heap.get?_push_size _ rfl
    have ty0 : Shared.TypeIs { s with heap := s.heap.push (frS w) } (.ref s.heap.objs.size) "set" := ⟨_, at0, rfl⟩
    have il := PySem.F.called_set.init.lookup
    have ib := PySem.F.called_set.init.bind (.ref s.heap.objs.size)
    repeat (any_goals (first | assumption | wp_step))
    refine codeAny_mono (codeAny_call_builtin (R := wants (fun r s2 => r = .none ∧ ∃ h' tk l, s2 = { s with heap := h', toks := tk } ∧ SsAt P w h' s.heap.objs.size l ∧ (∀ y, y ∈ l ↔ upTo x x.cps.size y) ∧ l.length ≤ x.cps.size ∧
        (∀ b o, s.heap.get? b = some o → h'.get? b = some o)) E) PySem.F.called_set.init.plain PySem.F.entry_set_init (check_set_init_1 ty0 ?_)) fun r2 s2 h2 => ?_
    · have f1 := PySem.F.sub_str_set
      have f2 := PySem.F.sub_str_frozenset
      have f3 : (Value.type "str" == Value.type "dict") = false := by decide
      unfold Builtin.«set.__init__» noKeywords Builtin.Frozenset.updateFrom
      generalize hPI : pyIter = PI
      wp_walk
      subst hPI
      refine wpAny_pyIter_ascii hx ?_
      refine wpAny_bind (wpAny_runValue ?_)
      have sz1 : (s.heap.push (frS w)).objs.size = s.heap.objs.size + 1 := Heap.size_push ..
      refine ss_loop (t := t) (I := (s.heap.push (frS w)).objs.size) (by simp [hh]) (by rw [sz1]; exact Nat.ne_of_lt (Nat.lt_succ_self _)) hz (x.cps.size - 0) 0 _ [] rfl (Nat.zero_le _) ⟨_, Heap.get?_push_size _ rfl, rfl, rfl⟩ (ss_fresh (Heap.get?_push_of_some _ at0))
        (fun y => ⟨fun z => (by cases z), fun ⟨j, c, hj, _⟩ => absurd hj (Nat.not_lt_zero _)⟩) (Nat.le_refl _) fun h' tk l hS hm hl kp => ?_
      show wpAny _ _ _ _ _ _
      refine wpAny_pure ?_
      show wpAny _ _ (ret Value.none) _ _ _
      refine wpAny_pure ⟨rfl, h', tk, l, rfl, hS, hm, hl, fun b o e => ?_⟩
      have lt := Heap.lt_size e
      exact kp b o (Nat.ne_of_lt lt) (by rw [sz1]; exact Nat.ne_of_lt (Nat.lt_succ_of_lt lt)) (Heap.get?_push_of_some _ (Heap.get?_push_of_some _ e))
    · match r2, h2 with
      | .error e, h2 => exact h2
      | .ok .next, h2 => exact h2.elim
      | .ok .brk, h2 => exact h2.elim
      | .ok .cont, h2 => exact h2.elim
      | .ok (.ret r), h2 =>
        obtain ⟨rfl, h', tk, l, rfl, hS, hm, hl, kp⟩ := h2
        repeat (any_goals (first | assumption | wp_step))
        exact h _ _ _ hS hm hl kp
end
end Rz

namespace Rz
open PySem PySem.Spec PyProof.Rows L2
/-! ### sorted(set) of texts -/
theorem perm_sub : ∀ {l ys : List Str}, l.Nodup → (∀ k ∈ l, k ∈ ys) → ys.length = l.length → ys.Perm l
  | [], ys, _, _, e => by
    rw [List.eq_nil_of_length_eq_zero e]
  | k :: l, ys, nd, sub, e => by
    obtain ⟨n1, n2⟩ := List.nodup_cons.mp nd
    have hk := sub k List.mem_cons_self
    have p := List.perm_cons_erase hk
    refine p.trans (.cons k (perm_sub n2 (fun j hj => ?_) ?_))
    · exact (List.mem_erase_of_ne (show j ≠ k from fun z => n1 (by rw [← z]; exact hj))).mpr (sub j (List.mem_cons_of_mem _ hj))
    · have q := List.length_erase_of_mem hk
      have e2 : ys.length = l.length + 1 := e
      omega
theorem strs_of : ∀ {vs : List Value}, (∀ v ∈ vs, ∃ k t, v = Value.str k t) → ∃ ys, StrsAre vs ys ∧ ∀ k t, Value.str k t ∈ vs → k ∈ ys
  | [], _ => ⟨[], .nil, fun k t h => by cases h⟩
  | v :: vs, h => by
    obtain ⟨k, t, rfl⟩ := h v List.mem_cons_self
    obtain ⟨ys, r, m⟩ := strs_of (vs := vs) fun u hu => h u (List.mem_cons_of_mem _ hu)
    refine ⟨k :: ys, .cons k t r, fun j u hj => ?_⟩
    rcases List.mem_cons.mp hj with e | e
    · cases e
      exact List.mem_cons_self
    · exact List.mem_cons_of_mem _ (m j u e)
section
variable {P : Program} {w : World} {A : Around} {E : Value → Shared → Prop} {s : Shared} {a : Addr} {l : List Str}
theorem sorted_ss {Q : Value → Shared → Prop} (x : SsAt P w s.heap a l) (hh : A.handled = none) (h64 : l.length < 64)
    (hQ : ∀ (s' : Shared) (p : Addr) (out : Array Value) (c : Nat) (ys : List Str), (∀ b o, s.heap.get? b = some o → s'.heap.get? b = some o) → s'.gens = s.gens → s'.os = s.os → s.heap.objs.size ≤ p →
      s'.heap.get? p = some (seqObj "list" out c) → StrsAre out.toList ys → ys.Perm l → sortedS ys = true → Q (.ref p) s') :
    wpAny (model P w) A (call (.builtin "sorted") [.ref a]) Q E s := by
  obtain ⟨⟨es, ep, t⟩, ho, F, nd, r, led⟩ := x
  have sz : es.size = l.length := F.sz
  have el : ElemsOf (strKind P w) es.toList := F.el
  have mm : ∀ k : Str, k ∈ l ↔ ∃ e ∈ es.toList, (strKind P w).is k e.2 = true := F.mem
  refine Calls.call_function_entry kind_sorted plain_sorted entry_sorted (args_sorted1 _) ?_
  unfold Builtin.«sorted»
  refine wpAny_bind (m := checkCount "sorted" 1 1 _) (wpAny_pure ?_)
  refine wpAny_bind (collect_set (A := A.in1) hh ⟨_, ho, rfl, rfl⟩ F.fit (show es.size < scanBound by rw [sz]; unfold scanBound; omega) r led fun s1 vs k1 z1 g1 o1 pv => ?_)
  have vl : vs.length = l.length := by rw [pv.length_eq, List.length_map, Array.length_toList, sz]
  obtain ⟨ys0, S0, m0⟩ := strs_of (vs := vs) fun v hv => by
    obtain ⟨e, he, q⟩ := List.mem_map.mp (pv.mem_iff.mp hv)
    obtain ⟨⟨k, h1, _⟩, _⟩ := el e he
    obtain ⟨tk, e1⟩ := Value.isStrOf_shape (x := k) (v := e.2) h1
    exact ⟨k, tk, by rw [← q]; exact e1⟩
  have p0 : ys0.Perm l := perm_sub nd (fun k hk => by
    obtain ⟨e, he, q⟩ := (mm k).mp hk
    obtain ⟨tk, e1⟩ := Value.isStrOf_shape (x := k) (v := e.2) q
    exact m0 k tk (pv.mem_iff.mpr (List.mem_map.mpr ⟨e, he, e1⟩))) (by rw [← StrsAre.len_eq S0, vl])
  refine wpAny_bind (wpAny_newList ?_ (by rw [vl, sizeLine_eq]; omega))
  have at1 : (s1.heap.push (seqObj "list" vs.toArray 0)).get? s1.heap.objs.size = some (seqObj "list" vs.toArray 0) := Heap.get?_push_size _ rfl
  refine wpAny_bind (wpAny_holding (wpAny_call_entry slot_list_sort ⟨_, at1, rfl⟩ entry_list_sort (list_sort_treeK strKind_oneLt at1 S0.keysOf (fun v1 v2 rest e => keyKind_strs (by rw [← e]; exact S0)) (by rw [vl]; exact h64) fun st' hp hs => ⟨_, rfl, ?_⟩) (args_list_sort _)))
  obtain ⟨ys, a1, a2, a3⟩ := sorted_out_str S0 hp hs
  obtain ⟨c, hc⟩ := sortedHeap_at (vs := vs) (out := (arrOf st').map (·.2)) at1
  refine wpAny_pure ⟨_, rfl, hQ _ s1.heap.objs.size _ c ys (fun b u e => ?_) g1 o1 z1 hc a1 (a2.trans p0) a3⟩
  have q := k1 b u e
  have lt := Heap.lt_size q
  show (sortedHeap (s1.heap.push (seqObj "list" vs.toArray 0)) s1.heap.objs.size vs _).get? b = some u
  rw [sortedHeap_old (Nat.ne_of_lt lt) (by rw [size_push']; exact Nat.lt_succ_of_lt lt)]
  exact Heap.get?_push_of_some _ q
end
/-- the set at a, tracked -/
def SsO (P : Program) (w : World) (a : Addr) (l : List Str) : HO := .ext fun h => SsAt P w h a l
theorem ssO_ok {P : Program} {w : World} {H : Hp} {h : Heap} {a : Addr} {l : List Str} (x : SsAt P w h a l) : ObjOk P w H h a (SsO P w a l) :=
  ⟨x, let ⟨_, e, _⟩ := x; ⟨_, e⟩, fun h1 h2 q k => SsAt.keep q fun o e => k o e⟩
def rSetTx (P : Program) (w : World) : List V → Hp → VK → Prop := fun xs H Q => ∃ x : Str, xs = [.str x] ∧ x.cps.all (· < 128) = true ∧ x.cps.size + 1 < scanBound ∧
  ∀ (p : Addr) (l : List Str), H p = none → (∀ y, y ∈ l ↔ upTo x x.cps.size y) → l.Nodup → l.length ≤ x.cps.size → Q (.ref p) (upd H p (SsO P w p l))
def rSortSs (P : Program) (w : World) : List V → Hp → VK → Prop := fun vs H Q => ∃ (a : Addr) (l : List Str), vs = [.ref a] ∧ H a = some (SsO P w a l) ∧ l.length < 64 ∧
  ∀ (ys : List Str) (p : Addr), ys.Perm l → sortedS ys = true → H p = none → Q (.ref p) (upd H p (.lst (ys.map V.str)))
section
variable {X : Cx}
theorem cr_setTx (hc : X.calm = true) : CallR X (.type "set") (rSetTx X.prog X.w) := by
  intro pins s σ H xs us Q I r h
  obtain ⟨x, rfl, ha, hz, q⟩ := h
  obtain ⟨u, rfl, t, rfl⟩ := vals1 r
  refine call_setTx (I.ok.hd hc) ha hz fun h' tk l hS hm hl kp => ?_
  exact ⟨.ref s.heap.objs.size, _, I.laid (t' := tk) kp (Nat.le_refl _) (ssO_ok hS), rfl, q _ l (I.hok.fresh (Nat.le_refl _)) hm (let ⟨_, _, _, nd, _⟩ := hS; nd) hl⟩
theorem cr_sortSs (hc : X.calm = true) : CallR X (.builtin "sorted") (rSortSs X.prog X.w) := by
  intro pins s σ H vs us Q I r h
  obtain ⟨a, l, rfl, ha, h64, q⟩ := h
  rw [Vals.ref1 r]
  have hS : SsAt X.prog X.w s.heap a l := (I.hok a _ ha).1
  refine sorted_ss hS (I.ok.hd hc) h64 fun s' p out c ys k g o hp hg hi pm hs => ?_
  have hlen : (ys.map V.str).length ≤ sizeLine := by rw [List.length_map, pm.length_eq, sizeLine_eq]; omega
  have hn : H p = none := I.hok.fresh hp
  have J : Inv X pins σ (upd H p (.lst (ys.map V.str))) { s with heap := s'.heap, gens := s'.gens, drawn := s'.drawn, toks := s'.toks } :=
    I.call (ch := []) (Un.laid k hp hn) (I.hok.laid k hp ⟨hlen, out.toList, c, vals_of_strs hi, hg⟩) (by rw [g]; exact I.bare) (fun _ z => nomatch z)
  have e : s' = { s with heap := s'.heap, gens := s'.gens, drawn := s'.drawn, toks := s'.toks } := by
    obtain ⟨_, _, _, _, _⟩ := s'
    obtain rfl := o
    rfl
  rw [e]
  exact ⟨.ref p, _, J, rfl, q ys p pm hs hn⟩
end
end Rz
namespace Rz
open PySem PySem.Spec PyProof.Rows L2
/-! ### ascending signs -/
theorem rise_eq : ∀ {a b : List Nat}, a.Pairwise (· < ·) → b.Pairwise (· < ·) → (∀ x, x ∈ a ↔ x ∈ b) → a = b
  | [], [], _, _, _ => rfl
  | [], y :: b, _, _, h => absurd ((h y).mpr List.mem_cons_self) (by simp)
  | x :: a, [], _, _, h => absurd ((h x).mp List.mem_cons_self) (by simp)
  | x :: a, y :: b, ha, hb, h => by
    obtain ⟨a1, a2⟩ := List.pairwise_cons.mp ha
    obtain ⟨b1, b2⟩ := List.pairwise_cons.mp hb
    have e : x = y := by
      rcases List.mem_cons.mp ((h x).mp List.mem_cons_self) with e | e
      · exact e
      · rcases List.mem_cons.mp ((h y).mpr List.mem_cons_self) with f | f
        · exact f.symm
        · have := b1 x e
          have := a1 y f
          omega
    subst e
    refine congrArg (x :: ·) (rise_eq a2 b2 fun z => ⟨fun hz => ?_, fun hz => ?_⟩)
    · rcases List.mem_cons.mp ((h z).mp (List.mem_cons_of_mem _ hz)) with f | f
      · have := a1 z hz
        omega
      · exact f
    · rcases List.mem_cons.mp ((h z).mpr (List.mem_cons_of_mem _ hz)) with f | f
      · have := b1 z hz
        omega
      · exact f
def sgs (cs : List Nat) : List Str := cs.map fun c => ⟨#[c]⟩
theorem rise_of : ∀ (cs : List Nat) (p : Nat), risingS ⟨#[p]⟩ (sgs cs) = true → (p :: cs).Nodup → (p :: cs).Pairwise (· < ·)
  | [], p, _, _ => by simp
  | c :: cs, p, h, nd => by
    have e : (!ltCps [c] [p] && risingS ⟨#[c]⟩ (sgs cs)) = true := h
    rw [Bool.and_eq_true] at e
    obtain ⟨n1, n2⟩ := List.nodup_cons.mp nd
    have ih := rise_of cs c e.2 n2
    have lt : p < c := by
      have h1 : ltCps [c] [p] = false := by simpa using e.1
      have h2 : ¬ c < p := fun z => by
        have : ltCps [c] [p] = true := by simp [ltCps, z]
        rw [this] at h1
        cases h1
      have h3 : p ≠ c := fun z => n1 (by rw [z]; exact List.mem_cons_self)
      omega
    refine List.pairwise_cons.mpr ⟨fun x hx => ?_, ih⟩
    rcases List.mem_cons.mp hx with f | f
    · rw [f]
      exact lt
    · have := (List.pairwise_cons.mp ih).1 x f
      omega
theorem rise_sorted : ∀ (cs : List Nat), sortedS (sgs cs) = true → cs.Nodup → cs.Pairwise (· < ·)
  | [], _, _ => .nil
  | c :: cs, h, nd => rise_of cs c h nd
theorem sgs_nodup : ∀ {cs : List Nat}, (sgs cs).Nodup → cs.Nodup
  | [], _ => .nil
  | c :: cs, h => by
    obtain ⟨h1, h2⟩ := List.nodup_cons.mp (show ((⟨#[c]⟩ : Str) :: sgs cs).Nodup from h)
    exact List.nodup_cons.mpr ⟨fun z => h1 (List.mem_map.mpr ⟨c, z, rfl⟩), sgs_nodup h2⟩
theorem sgs_of : ∀ {ys : List Str}, (∀ y ∈ ys, ∃ c : Nat, y = ⟨#[c]⟩) → ∃ cs, ys = sgs cs
  | [], _ => ⟨[], rfl⟩
  | y :: ys, h => by
    obtain ⟨c, rfl⟩ := h y List.mem_cons_self
    obtain ⟨cs, rfl⟩ := sgs_of (ys := ys) fun z hz => h z (List.mem_cons_of_mem _ hz)
    exact ⟨c :: cs, rfl⟩
/-- what sorted(set(x)) is: the signs of x, ascending -/
theorem sorted_signs {x : Str} {l ys : List Str} {ds : List Nat} (hm : ∀ y, y ∈ l ↔ upTo x x.cps.size y) (nd : l.Nodup) (p : ys.Perm l) (hs : sortedS ys = true) (hd : ds.Pairwise (· < ·)) (hx : ∀ c, c ∈ ds ↔ c ∈ x.cps.toList) : ys = sgs ds := by
  have one : ∀ y, y ∈ ys ↔ ∃ c, c ∈ x.cps.toList ∧ y = ⟨#[c]⟩ := fun y => by
    rw [p.mem_iff, hm]
    constructor
    · rintro ⟨j, c, hj, hc, rfl⟩
      exact ⟨c, List.mem_of_getElem? (by rw [Array.getElem?_toList]; exact hc), rfl⟩
    · rintro ⟨c, hc, rfl⟩
      obtain ⟨j, hj⟩ := List.mem_iff_getElem?.mp hc
      rw [Array.getElem?_toList] at hj
      have lt : j < x.cps.size := by
        rcases Nat.lt_or_ge j x.cps.size with h | h
        · exact h
        · rw [Array.getElem?_eq_none h] at hj; cases hj
      exact ⟨j, c, lt, hj, rfl⟩
  obtain ⟨cs, rfl⟩ := sgs_of (ys := ys) fun y hy => let ⟨c, _, e⟩ := (one y).mp hy; ⟨c, e⟩
  have ndc := sgs_nodup (p.nodup_iff.mpr nd)
  refine congrArg sgs (rise_eq (rise_sorted cs hs ndc) hd fun c => ?_)
  rw [hx]
  constructor
  · intro hc
    obtain ⟨d, hd, e⟩ := (one ⟨#[c]⟩).mp (List.mem_map.mpr ⟨c, hc, rfl⟩)
    have e2 : c = d := by
      have q := congrArg (fun y : Str => y.cps.toList) e
      simpa using q
    rw [e2]
    exact hd
  · intro hc
    obtain ⟨d, hd, e⟩ := List.mem_map.mp ((one ⟨#[c]⟩).mpr ⟨c, hc, rfl⟩)
    have e2 : d = c := by
      have q := congrArg (fun y : Str => y.cps.toList) e
      simpa using q
    rw [← e2]
    exact hd
end Rz

namespace Rz
open PySem PySem.Spec PyProof.Rows L2
/-! ### a try whose body lets nothing out here -/
def WNo : WX := fun _ _ _ _ => False
section
variable {X : Cx} {body : List Stmt} {h0 : ExceptHandler} {hds : List ExceptHandler} {pos : Pos} {tb : TS}
theorem ps_try_no (hb : ∀ (pn : List (Addr × Obj)) (xe : Value → Shared → Prop), Takes (X.tr pn xe) WNo → PassesOwn (model X.prog X.w) X.A X.env xe → PSs (X.tr pn xe) body tb) : PS X (.Try body (h0 :: hds) [] [] pos) tb := by
  refine ⟨fun pins s σ H D I h => ?_⟩
  have ok := I.ok
  refine wpAny_Try_except ?_
  refine wpAny_mono ((hb (X.pn ++ pins) (fun e sa => wpAny (model X.prog X.w) X.A (noteFrame e X.env) (fun _ sb => wpAny (model X.prog X.w) X.A (setFlight e none) (fun _ sc =>
    wpAny (model X.prog X.w) X.A (handleBy e X.env (h0 :: hds)) (SP X pins D) X.xe sc) X.xe sb) X.xe sa) (fun u s2 air => ?_) PassesOwn.looking).run [] s σ H D (I.toTry _) h) (fun f s1 hsp => ?_) (fun e s1 he => he)
  · obtain ⟨a, B, sI, pins2, σ2, H2, cls, d, rfl, J0, nb, up, sky, na, os, ag, w⟩ := air
    exact w.elim
  · match f, hsp with
    | .next, hsp => obtain ⟨_, _, S6, q6⟩ := hsp; exact wpAny_execs_nil ⟨_, _, S6.ofTry ok, q6⟩
    | .brk, hsp => obtain ⟨_, _, S6, q6⟩ := hsp; exact ⟨_, _, S6.ofTry ok, q6⟩
    | .cont, hsp => obtain ⟨_, _, S6, q6⟩ := hsp; exact ⟨_, _, S6.ofTry ok, q6⟩
    | .ret u, hsp => obtain ⟨_, _, _, S6, r6, q6⟩ := hsp; exact ⟨_, _, _, S6.ofTry ok, r6, q6⟩
end
end Rz

namespace Rz
open PySem PySem.Spec PyProof.Rows L2
/-! ### enumerate(list, start=k) -/
/-- the list at a as it stands at each turn, each item in a new pair, counted from k -/
def IteF (K : PySem.W.Frag) (k : Int) (a : Addr) : It :=
  ⟨fun i H => ∃ (xs : List V) (x : V), SqL K H a xs ∧ xs[i]? = some x, fun i H v H' => ∃ T x, v = .ref T ∧ H T = none ∧ H' = upd H T (.tup [.int (k + (i : Nat)), x]) ∧ ∀ xs, SqL K H a xs → xs[i]? = some x, fun i H => ∃ xs : List V, SqL K H a xs ∧ i = xs.length⟩
theorem ne_it {h : Heap} {a it : Addr} {items : Array Value} {i : Nat} (l : h.IsList a items) (t : h.IsListIter it a i) : a ≠ it := fun z => by
  obtain ⟨o1, h1, c1, _⟩ := l
  obtain ⟨o2, h2, c2, _⟩ := t
  rw [z, h2] at h1
  obtain rfl := Option.some.inj h1
  rw [c2] at c1
  exact absurd c1 (by decide)
theorem ne_en {h : Heap} {a e it : Addr} {items : Array Value} {c : Int} {old : Value} (l : h.IsList a items) (t : IsEnum h e it c old) : a ≠ e := fun z => by
  obtain ⟨o1, h1, c1, _⟩ := l
  have h2 : h.get? e = _ := t
  rw [z, h2] at h1
  obtain rfl := Option.some.inj h1
  exact absurd (show Value.type "enumerate" = Value.type "list" from c1) (by decide)
theorem turn_enumF {P : Program} {w : World} {K : PySem.W.Frag} {elts : List Expr} {kk : Nat} {tpos : Pos} (c : Int) (a e it : Addr) :
    Turn P w K (.Tuple elts kk tpos) (IteF K c a) [e, it] e (fun i h => (∃ old, IsEnum h e it (c + ((i : Nat) : Int)) old) ∧ h.IsListIter it a i ∧ e ≠ it) where
  mem := by simp
  obj := fun i h st b hb => by
    obtain ⟨⟨old, he⟩, ⟨o, ho, hc, hd⟩, _⟩ := st
    rcases (show b = e ∨ b = it by simpa using hb) with rfl | rfl
    · exact ⟨_, he, fun v q => nomatch q⟩
    · exact ⟨o, ho, fun v q => by rw [hd] at q; cases q⟩
  keep := fun i h h' st k => let ⟨⟨old, he⟩, hi, hne⟩ := st; ⟨⟨old, k e (by simp) _ he⟩, hi.at fun o q => k it (by simp) o q, hne⟩
  item := by
    intro X hP hw hK hc i pins s σ H E I hf st hg
    subst hP hw hK
    obtain ⟨⟨old, he⟩, hit, hne⟩ := st
    obtain ⟨xs, x, hq, hx⟩ := hg
    obtain ⟨its, rv, p, hz⟩ := I.list hq
    obtain ⟨u, hu, ru⟩ := rv.get hx
    have le : e < s.heap.objs.size := Heap.lt_size he
    have li : it < s.heap.objs.size := by obtain ⟨_, q, _⟩ := hit; exact Heap.lt_size q
    have D := Draws.list (prog := X.prog) (w := X.w) (A := X.A.in1) (I.ok.hd hc) it a (ne_it p.isList hit) its.toArray
    have lt : i < its.toArray.size := by
      have q := (List.getElem?_eq_some_iff.mp hu).1
      rw [List.size_toArray]
      exact q
    refine wpAny_pyNext_enum_itemC D he ⟨hit, p.isList⟩ lt hne (by
      have q := ne_en p.isList he
      simp [hne, Ne.symm q]) fun u1 h1 tk hu1 ho hit1 hT hsz hk => ?_
    obtain rfl : u1 = u := by
      rw [List.getElem?_toArray, hu] at hu1
      exact (Option.some.inj hu1).symm
    refine ⟨_, rfl, wpAny_letOwnedTupleGo_enum (s := { s with heap := h1, toks := tk + 1 }) ho fun h2 he2 sb => ?_⟩
    have at2 : h2.get? s.heap.objs.size = some { cls := .type "tuple", data := .seq #[.int (c + i) tk, u1] } := (sb.2 _ (Nat.ne_of_gt le)).trans hT
    have nw : ObjOk X.prog X.w (upd H s.heap.objs.size (.tup [.int (c + (i : Nat)), x])) h2 s.heap.objs.size (.tup [.int (c + (i : Nat)), x]) :=
      ⟨by show 2 ≤ sizeLine; decide, [.int (c + i) tk, u1], .cons ⟨_, rfl⟩ (.cons ru .nil), ⟨_, at2, rfl, _, rfl⟩⟩
    have J : Inv X pins σ (upd H s.heap.objs.size (.tup [.int (c + (i : Nat)), x])) { s with heap := h2, toks := tk + 1 } :=
      I.turnedNew (t' := tk + 1) (ch := [e, it]) (fun b ob hb q => (sb.2 b (fun z => hb (by simp [z]))).trans (hk b ob (fun z => hb (by simp [z])) (fun z => hb (by simp [z])) q)) hf (Nat.le_refl _) nw
    refine ⟨.ref s.heap.objs.size, _, J, rfl, ⟨_, x, rfl, I.hok.fresh (Nat.le_refl _), rfl, fun ys hy => by rw [I.list_inj hy hq]; exact hx⟩, ⟨⟨u1, ?_⟩, hit1.1.at fun o q => (sb.2 it (Ne.symm hne)).trans q, hne⟩, fun b hb => ?_⟩
    · have e1 : c + ((i + 1 : Nat) : Int) = c + (i : Int) + 1 := by omega
      rw [e1]
      exact he2
    · have lb : b < s.heap.objs.size := by
        rcases (show b = e ∨ b = it by simpa using hb) with rfl | rfl
        · exact le
        · exact li
      rw [upd_ne (Nat.ne_of_lt lb)]
      exact (hf b hb).1
  done := by
    intro X hP hw hK hc i pins s σ H E I hf st hg
    subst hP hw hK
    obtain ⟨⟨old, he⟩, hit, hne⟩ := st
    obtain ⟨xs, hq, hx⟩ := hg
    obtain ⟨its, rv, p, hz⟩ := I.list hq
    obtain ⟨f0, f1, f2, f3, f4, f5⟩ := hf it (by simp)
    have hl := rv.length
    have D := Draws.list (prog := X.prog) (w := X.w) (A := X.A.in1) (I.ok.hd hc) it a (ne_it p.isList hit) its.toArray
    obtain rfl : i = its.toArray.size := by
      rw [List.size_toArray]
      omega
    exact wpAny_pyNext_enum_endD D he ⟨hit, p.isList⟩ fun h' eb => ⟨rfl, I.turned (t' := s.toks) (fun b o hb q => eb b o hb q) f0 f1 f3 f4 f5⟩
  self := fun A i s Q E st h => let ⟨⟨_, he⟩, _⟩ := st; wpAny_pyIter_enum he h
section
variable {M : Model} {A : Around} {E : Value → Shared → Prop} {s : Shared} {env : Env}
theorem callWith_typeKw {pos : Pos} {T : String} {args : List (Bool × Sem Value)} {kw : List (Option Str × Sem Value)} {Q : Value → Shared → Prop} (hplain : args.any (·.1) = false) (hkw : kw.any (·.1.isNone) = false)
    (h : wpAny M A (evalArgs (.type T) true args kw) (fun a s₁ => wpAny M A (call (.type T) ([] ++ a.pos) a.kw) Q E s₁) E s) : wpAny M A (callWith pos (.type T) [] args kw) Q E s := by
  unfold callWith
  refine wpAny_bind (wpAny_holding (wpAny_mono h (fun a s1 h1 => wpAny_bind (wpAny_standAt ?_)) fun _ _ x => x))
  simp only [hplain, hkw, Bool.or_false]
  refine wpAny_bind (wpAny_pure ?_)
  exact wpAny_bind (wpAny_mono h1 (fun r s2 hr => wpAny_bind (wpAny_holding (wpAny_point (wpAny_pure hr)))) fun _ _ x => x)
end
def iEnumF (K : PySem.W.Frag) (ta tk : TA) : TI := fun σ H R => ta σ H fun vs H1 => tk σ H1 fun zs H2 => ∃ a xs k, vs = [.ref a] ∧ zs = [.int k] ∧ 0 ≤ k ∧ k < 2 ^ 62 ∧ SqL K H2 a xs ∧ R (IteF K k a) H2
theorem pi_enumF {X : Cx} {e : Expr} {kws : List Keyword} {ta tk : TA} {p pos tpos : Pos} {elts : List Expr} {kk : Nat} (hg : Gl X "enumerate") (hm : X.mg "enumerate" = none) (ha : PA X [e] ta) (hkw : PK X kws tk)
    (he : starEach [e] X.env = (false, eval e X.env) :: starEach [] X.env := by rfl) (hpl : (backTo pos (starEach [e] X.env)).any (·.1) = false := by rfl)
    (hall : (backToKw pos (keywordEach kws X.env)).all (·.1.isSome) = true := by rfl) (hnone : (backToKw pos (keywordEach kws X.env)).any (·.1.isNone) = false := by rfl) (hks : (backToKw pos (keywordEach kws X.env)).filterMap (·.1) = [Str.ofString "start"] := by rfl) :
    PI X (.Tuple elts kk tpos) (.Call (.Name "enumerate" p) [e] kws pos) (iEnumF X.K ta tk) := by
  refine ⟨fun pins s σ H R I h => ?_⟩
  refine wpAny_Call_Name_kw (ld_blt (u := .type "enumerate") I hg hm boot_enumerate (callWith_typeKw hpl hnone (evalArgs_kw2 hall (thn (ha.run pos pins s σ H _ I h) fun us s1 ⟨vs, H1, I1, r1, q1⟩ => thn (hkw.run pos pins s1 σ H1 _ I1 q1) fun ws s2 ⟨zs, H2, I2, r2, q2⟩ => ?_) he)) (by decide) (by decide))
  rw [hks]
  obtain ⟨a, xs, k, rfl, rfl, k0, k1, hq, q⟩ := q2
  obtain ⟨u, rfl, ru⟩ := vals1 r1
  obtain rfl : u = Value.ref a := ru
  obtain ⟨z, rfl, t, rfl⟩ := vals1 r2
  obtain ⟨its, rv, pl, hz⟩ := I2.list hq
  refine enum_begins_start (begins_list a its.toArray) pl.isList (by omega) (by omega) fun h' he hit hsz hk => wpAny_pyIter_enum he ?_
  have J : Inv X pins σ H2 { s2 with heap := h' } := I2.kept (t' := s2.toks) hk
  refine ⟨s2.heap.objs.size + 1, [s2.heap.objs.size + 1, s2.heap.objs.size], _, _, H2, rfl, J, turn_enumF k a (s2.heap.objs.size + 1) s2.heap.objs.size, ⟨⟨.none, ?_⟩, ⟨_, hit, rfl, rfl⟩, Nat.succ_ne_self _⟩, fun b hb => ?_, q⟩
  · have e0 : k + ((0 : Nat) : Int) = k := by simp
    rw [e0]
    exact he
  · have le : s2.heap.objs.size ≤ b := by
      rcases (show b = s2.heap.objs.size + 1 ∨ b = s2.heap.objs.size by simpa using hb) with z | z
      · rw [z]; exact Nat.le_add_right _ _
      · rw [z]; exact Nat.le_refl _
    exact I2.fpOk le (I2.hok.fresh le)
end Rz
namespace Rz
open PySem PySem.Spec PyProof.Rows L2
theorem walk_enumF {K : PySem.W.Frag} {k : Int} {a : Addr} {xs : List V} : Walk (IteF K k a) xs.length (fun H => SqL K H a xs) (fun i H v H' => ∃ T x, v = .ref T ∧ H T = none ∧ H' = upd H T (.tup [.int (k + (i : Nat)), x]) ∧ xs[i]? = some x) :=
  ⟨fun i H hi h => ⟨xs, _, h, List.getElem?_eq_getElem hi⟩, fun H h => ⟨xs, h, rfl⟩, fun i H v H' _ h y => by
    obtain ⟨T, x, e1, e2, e3, e4⟩ := y
    exact ⟨T, x, e1, e2, e3, e4 xs h⟩⟩
theorem joinL_len (s : List Nat) : ∀ ps : List (List Nat), (TL.joinL s ps).length ≤ (ps.map List.length).sum + ps.length * s.length
  | [] => by
    show ([] : List Nat).length ≤ _
    simp
  | [p] => by
    show p.length ≤ _
    simp
  | p :: q :: r => by
    have ih := joinL_len s (q :: r)
    have e : (TL.joinL s (p :: q :: r)).length = p.length + (s.length + (TL.joinL s (q :: r)).length) := by
      show (p ++ (s ++ TL.joinL s (q :: r))).length = _
      rw [List.length_append, List.length_append]
    have m : (p :: q :: r).length * s.length = s.length + (q :: r).length * s.length := by
      rw [List.length_cons, Nat.succ_mul, Nat.add_comm]
    rw [e, m, List.map_cons, List.sum_cons]
    omega
end Rz

namespace Rz
open PySem PySem.Spec PyProof.Rows L2
/-! ### o += x by an own __iadd__ that may let an exception out -/
section
variable {X : Cx} {k : Nat} {f C : Addr} {fd : FuncData} {ps : List Str} {sp : Sp} {E : EX}
def tIpX (C : Addr) (sp : Sp) (E : EX) : V → V → Hp → VK → Prop := fun x y H Q => ∃ a dx fs, x = .ref a ∧ H a = some (.ins C dx fs) ∧ ∀ σ, sp [x, y] H (fun v H' => (∃ b, v = .ref b) ∧ Q v H') (E σ)
theorem ip_ownX (M : Meth X.K C "__iadd__" f) (hc : PySem.W.selfFirst X.K C = true) (F : FnOk X.prog X.w X.K X.mg X.base (L2.CX X.prog X.w) k f fd ps sp) (hr : Room k X.A) (hb : Binds X.K fd ps []) (hx : ∀ σ, PassesAt (L2.CX X.prog X.w) X σ (E σ)) : PIp X .Add (tIpX C sp E) := by
  intro pins s σ H x y v u Q I r1 r2 h
  obtain ⟨a, dx, fs, rfl, ea, hq⟩ := h
  obtain rfl : v = Value.ref a := r1
  obtain ⟨od, J⟩ := inst_at I ea
  obtain ⟨m0, hF⟩ := I.fr
  have z := run_X (us := [.ref a, u]) (vs := [.ref a, y]) F hr rfl hb .nil (hx σ) I (.cons rfl (.cons r2 .nil)) (by rw [List.append_nil]; exact hq σ)
  refine PySem.W.ksp_inplace hF I.ok.mod.kin J hc M.at_ M.fn (wpAny_call (codeAny_mono z fun q s' hq => ?_))
  match q, hq with
  | .error er, hq => exact hq
  | .ok (.ret r), hq =>
    obtain ⟨z, H', J', rz, ⟨b, rfl⟩, q⟩ := hq
    obtain rfl : r = Value.ref b := rz
    exact ⟨.ref b, H', J', rfl, q⟩
  | .ok .next, hq => exact hq.elim
  | .ok .brk, hq => exact hq.elim
  | .ok .cont, hq => exact hq.elim
end
end Rz

namespace Rz
open PySem PySem.Spec PyProof.Rows L2 GenW
/-! ### if and for in the body of a generator -/
section
variable {M : Model} {A : Around} {R : GenEnd} {Y : Protocol} {n : Nat} {s₀ : Shared} {c : Code} {fs : List Frame} {s : Shared} {env : Env}
  {K : Flow → Sem PySem.Fin} {H : Value → Sem PySem.Fin} {gd : Bool → Bool} {lv : List Value → List Value}
theorem seg_iff_stmt {test : Expr} {body orelse : List Stmt} {pos : Pos}
    (h : wpAny M (A.over c fs) (isTrue test env (eval test env)) (fun b s' => if b = true then Seg M A R Y n s₀ c ((execs body env).wrap K H gd lv) fs s' else Seg M A R Y n s₀ c ((execs orelse env).wrap K H gd lv) fs s') (fun x s' => Seg M A R Y n s₀ c (H x) fs s') s) :
    Seg M A R Y n s₀ c ((exec (.If test body orelse pos) env).wrap K H gd lv) fs s := by
  show Seg M A R Y n s₀ c ((standAt pos >>= fun _ => isTrue test env (eval test env) >>= fun b => if b = true then execs body env else execs orelse env).wrap K H gd lv) fs s
  refine seg_bind_wrap (wpAny_standAt ?_)
  refine seg_bind_wrap (wpAny_mono h (fun b s' hb => ?_) fun _ _ z => z)
  cases b with
  | true => exact hb
  | false => exact hb
theorem seg_For {target iter : Expr} {body orelse : List Stmt} {pos : Pos}
    (h : wpAny M (A.over c fs) (eval iter env) (fun x s1 => wpAny M (A.over c fs) (pyIter x) (fun it s2 => ∀ p, Seg M A R Y n s₀ (.forLoop target it body orelse env) (M.den (.forLoop target it body orelse env))
      (.ret (fun r => ((match r with | .ok f => (.pure f : Sem Flow) | .error e => .raise e).onRaise (cameBack env)).wrap K H gd lv) none (gd false) (lv []) c p [] :: fs) s2)
      (fun x s' => Seg M A R Y n s₀ c (H x) fs s') s1) (fun x s' => Seg M A R Y n s₀ c (H x) fs s') s)
    (hs : ∀ x, foldedSetIterable iter env x = pure x) :
    Seg M A R Y n s₀ c ((exec (.For target iter body orelse pos) env).wrap K H gd lv) fs s := by
  rw [exec_For]
  refine seg_bind_wrap (wpAny_standAt ?_)
  refine seg_bind_wrap (wpAny_mono h (fun x s1 h1 => ?_) fun _ _ z => z)
  refine seg_bind_wrap (wpAny_of_eq (hs x) ?_)
  refine seg_bind_wrap (wpAny_standAt ?_)
  refine seg_bind_wrap (wpAny_holding (wpAny_mono h1 (fun it s2 h2 => ?_) fun _ _ z => z))
  exact seg_call h2
end
section
variable {prog : Program} {w : World} {A : Around} {R : GenEnd} {Y : Protocol} {n : Nat} {s₀ : Shared} {fs : List Frame} {s : Shared} {env : Env}
/-- what a loop's code does with an exception of its own -/
def noteX (env : Env) (e : Value) : Sem PySem.Fin := (do noteFrame e env; theTreesLotGoes e : Sem Unit).bind fun _ => .raise e
theorem seg_forLoop {target : Expr} {it : Value} {body orelse : List Stmt}
    (h : wpAny (model prog w) (A.over (.forLoop target it body orelse env) fs) (pyNext it) (fun r s1 => match r with
        | none => Seg (model prog w) A R Y n s₀ (.forLoop target it body orelse env) (.pure (.again (.block orelse env))) fs s1
        | some v => wpAny (model prog w) (A.over (.forLoop target it body orelse env) fs) (letOwnedTupleGo target it v) (fun _ s2 =>
            wpAny (model prog w) (A.over (.forLoop target it body orelse env) fs) (assign target env v) (fun _ s3 =>
              Seg (model prog w) A R Y n s₀ (.forLoop target it body orelse env) ((execs body env).wrap (fun f => ((match f with
                | .next | .cont => again (.forLoop target it body orelse env)
                | .brk => pure (.done .next)
                | .ret v => pure (.done (.ret v)) : Sem PySem.Fin)).wrap .pure (noteX env) id id) (noteX env) id id) fs s3)
              (fun x s' => Seg (model prog w) A R Y n s₀ (.forLoop target it body orelse env) (noteX env x) fs s') s2)
            (fun x s' => Seg (model prog w) A R Y n s₀ (.forLoop target it body orelse env) (noteX env x) fs s') s1)
      (fun x s' => Seg (model prog w) A R Y n s₀ (.forLoop target it body orelse env) (noteX env x) fs s') s) :
    Seg (model prog w) A R Y n s₀ (.forLoop target it body orelse env) ((model prog w).den (.forLoop target it body orelse env)) fs s := by
  show Seg _ A R Y n s₀ _ ((forTurn target it body orelse env).onRaise (fun x => do noteFrame x env; theTreesLotGoes x)) fs s
  rw [Sem.onRaise_eq_wrap]
  show Seg _ A R Y n s₀ _ ((forTurn target it body orelse env).wrap .pure (noteX env) id id) fs s
  unfold forTurn
  refine seg_bind_wrap (wpAny_standAt ?_)
  refine seg_bind_wrap (wpAny_onRaise (wpAny_mono h (fun r s1 h1 => ?_) fun _ _ z => wpAny_standAt z))
  cases r with
  | none => exact h1
  | some v =>
    refine seg_bind_wrap (wpAny_mono h1 (fun _ s2 h2 => ?_) fun _ _ z => z)
    refine seg_bind_wrap (wpAny_mono h2 (fun _ s3 h3 => ?_) fun _ _ z => z)
    rw [Sem.bind_eq_wrap', Sem.wrap_wrap]
    exact h3
end
section
variable {X : Cx} {st : Stmt} {rest : List Stmt} {pos : Pos}
theorem gss_one {t : TGn} (a : GS X st t) : GSs X [st] (tGThen t tG0) := gss_cons a gss_nil
def tGIf (c : TT) (t u : TGn) : TGn := fun D ys σ H => c σ H fun b H1 => if b = true then t D ys σ H1 else u D ys σ H1
theorem gs_if {c : Expr} {a b : List Stmt} {tc : TT} {t u : TGn} (hc : PT X c tc) (ha : GSs X a t) (hb : GSs X b u) : GS X (.If c a b pos) (tGIf tc t u) := by
  refine ⟨fun A S ip R n ys s₀ c' fs K J gd lv s σ H D g hn k hI ht => ?_⟩
  obtain ⟨acc, cc, r, I⟩ := hI
  refine seg_iff_stmt ?_
  rw [g.over]
  refine wpAny_mono (hc.run _ s σ H _ I ht) (fun d s1 q => ?_) fun x s' hx => k.exc n s₀ x s' hx
  obtain ⟨H1, I1, q1⟩ := q
  cases d with
  | true => exact ha.run A S ip R n ys s₀ c' fs K J gd lv s1 σ H1 D g hn k ⟨acc, cc, r, I1⟩ q1
  | false => exact hb.run A S ip R n ys s₀ c' fs K J gd lv s1 σ H1 D g hn k ⟨acc, cc, r, I1⟩ q1
/-- W: the invariant by the turn, a measure, what is out so far -/
def tGFor (wi : TI) (g : TG) (tb : TGn) : TGn := fun D ys σ H => wi σ H fun J H1 => ∃ W : Nat → Nat → List V → L2.St → Hp → Prop, (∃ m, W 0 m ys σ H1) ∧ ∀ i m ys σ H, W i m ys σ H →
  (J.stop i H ∧ D.nx ys σ H) ∨ (J.go i H ∧ ∃ N : List V → L2.St → Hp → Prop, (∀ ys' σ' H', N ys' σ' H' → ∃ m', m' < m ∧ W (i + 1) m' ys' σ' H') ∧ ∀ x H', J.yld i H x H' → g x σ H' fun σ2 H2 => tb { D with nx := N, ct := N, bk := D.nx } ys σ2 H2)
theorem gs_for {tg iter : Expr} {body : List Stmt} {wi : TI} {gg : TG} {tb : TGn} (hp : PassesOwn (model X.prog X.w) X.A X.env X.xe) (hc : X.calm = true) (hi : PI X tg iter wi) (hg : PG X tg gg) (hb : GSs X body tb)
    (hs : ∀ x, foldedSetIterable iter X.env x = pure x := by intro _; rfl) : GS X (.For tg iter body [] pos) (tGFor wi gg tb) := by
  refine ⟨fun A S ip R n ys s₀ c fs K J gd lv s σ H D g hn k hI ht => ?_⟩
  obtain ⟨acc0, cc0, r0, I0⟩ := hI
  refine seg_For ?_ hs
  rw [g.over]
  refine wpAny_mono (hi.run _ s σ H _ I0 ht) (fun v s1 h1 => wpAny_mono h1 (fun itv s2 h2 p => ?_) fun x s' hx => k.exc n s₀ x s' hx) fun x s' hx => k.exc n s₀ x s' hx
  obtain ⟨it, fp, tn, Jt, H2, rfl, I2, T, st2, f2, W, ⟨m0, w0⟩, turn⟩ := h2
  have stat : ∀ {H' : Hp} {acc : Array Value} {cc : Nat}, (∀ b ∈ fp, H' b = none) → ∀ b ∈ fp, FpOk X ((S, lstObj acc cc) :: ip) H' b := fun {H' acc cc} hn b hb => by
    obtain ⟨_, f1, f3, f4, f5, f6⟩ := f2 b hb
    refine ⟨hn b hb, f1, f3, f4, f5, fun p hp => ?_⟩
    rcases List.mem_append.mp hp with z | z
    · exact f6 p (List.mem_append_left _ z)
    · rcases List.mem_cons.mp z with z | z
      · rw [z]
        exact f6 (S, lstObj acc0 cc0) (List.mem_append_right _ List.mem_cons_self)
      · exact f6 p (List.mem_append_right _ (List.mem_cons_of_mem _ z))
  have gl := fun (kk : Result → Sem PySem.Fin) => gc_loop (k := kk) (c' := .forLoop tg (.ref it) body [] X.env) (l := lv []) (kp := []) (p := p) g rfl rfl
  have gb := fun (kk : Result → Sem PySem.Fin) => gc_loop (k := kk) (c' := .block [] X.env) (l := lv []) (kp := []) (p := p) g rfl rfl
  have loop : ∀ (m i n : Nat) (ys : List V) (s₀ s : Shared) (σ : L2.St) (H : Hp), n + ys.length = sizeLine → W i m ys σ H → GI X S ip ys σ H s → tn i s.heap → (∀ b ∈ fp, H b = none) →
      Seg (model X.prog X.w) A R (GY X S) n s₀ (.forLoop tg (.ref it) body [] X.env) ((model X.prog X.w).den (.forLoop tg (.ref it) body [] X.env))
        (.ret (fun r => ((match r with | .ok f => (.pure f : Sem Flow) | .error e => .raise e).onRaise (cameBack X.env)).wrap K J gd lv) none (gd false) (lv []) c p [] :: fs) s := by
    intro m
    induction m using Nat.strongRecOn with
    | ind m ih =>
      intro i n ys s₀ s σ H hn w hI hst hfr
      have ee : ∀ (n : Nat) (s₀ : Shared) (x : Value) (s' : Shared), X.xe x s' → Seg (model X.prog X.w) A R (GY X S) n s₀ (.forLoop tg (.ref it) body [] X.env) (noteX X.env x)
          (.ret (fun r => ((match r with | .ok f => (.pure f : Sem Flow) | .error e => .raise e).onRaise (cameBack X.env)).wrap K J gd lv) none (gd false) (lv []) c p [] :: fs) s' := fun n s₀ x s' hx => by
        unfold noteX
        rw [Sem.bind_eq_wrap]
        refine seg_wrap ?_
        rw [(gl _).over]
        refine wpAny_bind (wpAny_mono (hp x s' hx) (fun _ s'' hcb => wpAny_theTreesLotGoes ?_) fun y s'' hcb => ?_)
        · exact seg_leaf (.error x) (seg_cameBack g k hcb)
        · exact seg_leaf (.error y) (seg_cameBack g k hcb)
      obtain ⟨acc, cc, r, I⟩ := hI
      refine seg_forLoop ?_
      rw [(gl _).over]
      rcases turn i m ys σ H w with ⟨stop, qn⟩ | ⟨go, N, hN, step⟩
      · refine wpAny_mono (T.done X rfl rfl rfl hc i _ s σ H X.xe I (stat hfr) hst stop) (fun r s4 q => ?_) fun x s' hx => ee n s₀ x s' hx
        obtain ⟨hr, I4⟩ := q
        subst hr
        refine seg_again rfl ?_
        exact seg_leaf (.ok .next) (k.ok n ys s₀ s4 .next hn ⟨σ, H, ⟨acc, cc, ‹_›, I4⟩, qn⟩)
      · refine wpAny_mono (T.item X rfl rfl rfl hc i _ s σ H X.xe I (stat hfr) hst go) (fun r s4 q => ?_) fun x s' hx => ee n s₀ x s' hx
        obtain ⟨u, hr, h4⟩ := q
        subst hr
        refine wpAny_mono h4 (fun _ s5 q5 => ?_) fun x s' hx => ee n s₀ x s' hx
        obtain ⟨x, H5, I5, r5, y5, st5, fr5⟩ := q5
        have I5' := I5.pinned (stat fr5) (T.obj _ _ st5)
        refine wpAny_mono (hg.run _ s5 σ H5 x u _ I5' r5 (step x H5 y5)) (fun _ s6 q6 => ?_) fun x s' hx => ee n s₀ x s' hx
        obtain ⟨σ6, H6, I6, q6⟩ := q6
        have g2 : ∀ kk, GC X S (ip ++ pinsAt fp s5.heap) A (.forLoop tg (.ref it) body [] X.env) (.ret kk none (gd false) (lv []) c p [] :: fs) id := fun kk =>
          ⟨(gl kk).pn, fun q hq => (List.mem_append.mp hq).elim (fun z => g.ip q z) fun z => fun e => (f2 q.1 (of_pinsAt z).1).2.2.2.2.2 (S, lstObj acc0 cc0) (List.mem_append_right _ List.mem_cons_self) e.symm, (gl kk).apart, (gl kk).over, (gl kk).split, (gl kk).guard, (gl kk).gd⟩
        have back : ∀ {ys' : List V} {σ7 : L2.St} {H7 : Hp} {s7 : Shared}, GI X S (ip ++ pinsAt fp s5.heap) ys' σ7 H7 s7 → GI X S ip ys' σ7 H7 s7 := fun {ys' σ7 H7 s7} h => by
          obtain ⟨acc7, cc7, r7, I7⟩ := h
          exact ⟨acc7, cc7, r7, Inv.unpinned (pins := (S, lstObj acc7 cc7) :: ip) I7⟩
        have still : ∀ {ys' : List V} {σ7 : L2.St} {H7 : Hp} {s7 : Shared}, GI X S (ip ++ pinsAt fp s5.heap) ys' σ7 H7 s7 → tn (i + 1) s7.heap ∧ ∀ b ∈ fp, H7 b = none := fun {ys' σ7 H7 s7} h => by
          obtain ⟨acc7, cc7, r7, I7⟩ := h
          refine ⟨T.keep _ _ _ st5 fun b hb o e => (I7.pin (b, o) (List.mem_append_right _ (List.mem_cons_of_mem _ (List.mem_append_right _ (mem_pinsAt hb e))))).1, fun b hb => ?_⟩
          obtain ⟨o, e, d⟩ := T.obj _ _ st5 b hb
          exact (I7.pin (b, o) (List.mem_append_right _ (List.mem_cons_of_mem _ (List.mem_append_right _ (mem_pinsAt hb e))))).2.1
        refine hb.run A S (ip ++ pinsAt fp s5.heap) R n ys s₀ _ _ _ _ id id s6 σ6 H6 { D with nx := N, ct := N, bk := D.nx } (g2 _) hn ⟨fun n' ys' s₀' s7 f hn' hs => ?_, fun n' s₀' x s3 hx => ee n' s₀' x s3 hx⟩ ⟨acc, cc, ‹_›, I6⟩ q6
        cases f with
        | next =>
          obtain ⟨σ7, H7, I7, n7⟩ := hs
          obtain ⟨m', hm, w7⟩ := hN ys' σ7 H7 n7
          obtain ⟨t7, f7⟩ := still I7
          exact seg_again rfl (ih m' hm (i + 1) n' ys' s₀' s7 σ7 H7 hn' w7 (back I7) t7 f7)
        | cont =>
          obtain ⟨σ7, H7, I7, n7⟩ := hs
          obtain ⟨m', hm, w7⟩ := hN ys' σ7 H7 n7
          obtain ⟨t7, f7⟩ := still I7
          exact seg_again rfl (ih m' hm (i + 1) n' ys' s₀' s7 σ7 H7 hn' w7 (back I7) t7 f7)
        | brk =>
          obtain ⟨σ7, H7, I7, q7⟩ := hs
          exact seg_leaf (.ok .next) (k.ok n' ys' s₀' s7 .next hn' ⟨σ7, H7, back I7, q7⟩)
        | ret v =>
          obtain ⟨x7, σ7, H7, I7, r7, q7⟩ := hs
          exact seg_leaf (.ok (.ret v)) (k.ok n' ys' s₀' s7 (.ret v) hn' ⟨x7, σ7, H7, back I7, r7, q7⟩)
  exact loop m0 0 n ys s₀ s2 σ H2 hn w0 ⟨acc0, cc0, r0, I2⟩ st2 fun b hb => (f2 b hb).1
/-- a for over a walk: Pv by the turn, what is out, the slots and the heap -/
theorem gfor_it {J : It} {n : Nat} {G : Hp → Prop} {Y : Nat → Hp → V → Hp → Prop} (w : Walk J n G Y) {g : TG} {tb : TGn} {D : GEnds} {ys : List V} {σ : L2.St} {H : Hp} (Pv : Nat → List V → L2.St → Hp → Prop) (h0 : Pv 0 ys σ H) (hG : ∀ i ys σ H, i ≤ n → Pv i ys σ H → G H)
    (hs : ∀ i x ys σ H H', i < n → Pv i ys σ H → Y i H x H' → g x σ H' fun σ2 H2 => tb { D with nx := Pv (i + 1), ct := Pv (i + 1), bk := D.nx } ys σ2 H2) (hd : ∀ ys σ H, Pv n ys σ H → D.nx ys σ H) :
    ∃ W : Nat → Nat → List V → L2.St → Hp → Prop, (∃ m, W 0 m ys σ H) ∧ ∀ i m ys σ H, W i m ys σ H →
      (J.stop i H ∧ D.nx ys σ H) ∨ (J.go i H ∧ ∃ N : List V → L2.St → Hp → Prop, (∀ ys' σ' H', N ys' σ' H' → ∃ m', m' < m ∧ W (i + 1) m' ys' σ' H') ∧ ∀ x H', J.yld i H x H' → g x σ H' fun σ2 H2 => tb { D with nx := N, ct := N, bk := D.nx } ys σ2 H2) := by
  refine ⟨fun i m ys σ H => m = n - i ∧ i ≤ n ∧ Pv i ys σ H, ⟨n, by simp, Nat.zero_le _, h0⟩, ?_⟩
  rintro i m ys σ H ⟨rfl, hi, p⟩
  have q := hG i ys σ H hi p
  by_cases hlt : i < n
  · exact .inr ⟨w.goes i H hlt q, Pv (i + 1), fun ys' σ' H' p' => ⟨n - (i + 1), by omega, rfl, hlt, p'⟩, fun x H' y => hs i x ys σ H H' hlt p (w.yields i H x H' hlt q y)⟩
  · have e : i = n := by omega
    subst e
    exact .inl ⟨w.stops H q, hd ys σ H p⟩
end
end Rz
namespace Rz
open PySem PySem.Spec PyProof.Rows L2 GenW
/-- a generator def by its body -/
theorem gfn_by {P : Program} {w : World} {K : PySem.W.Frag} {mg : Str → Option Value} {base : Heap} {k : Nat} {x qual : Str} {st : Stmt} {f : Addr} {fd : FuncData} {N ps : List Str} {sp : SpG} (F : Fun K x qual st f fd) (S : GScope N ps (defScope st)) (len : ∀ vs H Q E, sp vs H Q E → vs.length = ps.length)
    (hbody : ∀ (cdv : Value) (A : Around) (outer : List Env) (s : Shared) (H : Hp) (vs : List V) (Q : List V → Hp → Prop) (E : XK) (pn : List (Addr × Obj)), Room k (A.deeper (envOfC qual (defScope st) s.heap.objs.size f cdv)) → sp vs H Q E →
      ∃ t, GSs (gcxOf P w K mg base N qual (defScope st) f cdv A outer s H E pn) (defBody st) t ∧ t { nx := fun ys _ H' => Q ys H', rt := fun ys v H' => v = .non ∧ Q ys H' } [] (start N vs) H) : GFn P w K mg base (k + 1) f fd ps sp := by
  obtain ⟨oc, od, kV, doc, pm, an, cdv, ct, osl, rfl, lk, hcd⟩ := F.ex
  exact gfn_of lk hcd S len fun A outer s H vs Q E pn hr hsp => hbody cdv A outer s H vs Q E pn hr hsp
end Rz

namespace Rz
open PySem PySem.Spec PyProof.Rows L2
/-! ### o.replace(c[i], d[j]): the two signs are new texts, one younger than the other -/
def PETk (X : Cx) (m : Nat) (e : Expr) (te : TE) : Prop := ∀ (pins : List (Addr × Obj)) (s : Shared) (σ : L2.St) (H : Hp) (Q : VK), Inv X pins σ H s → te σ H Q →
  wpAny (model X.prog X.w) X.A (eval e X.env) (fun u s' => ∃ (z : Str) (t : Tok) (H' : Hp), u = .str z t ∧ s.toks + m ≤ t ∧ t < s'.toks ∧ Inv X pins σ H' s' ∧ Q (.str z) H') X.xe s
section
variable {X : Cx} {a b o e1 e2 : Expr} {ta tb to t1 t2 : TE} {cst : Str} {j : Nat} {pos apos p p' : Pos}
theorem tail_tok {value slice : Expr} {pins : List (Addr × Obj)} {s s2 : Shared} {σ : L2.St} {H : Hp} {x y : V} {v u : Value} {Q : VK} {m : Nat} (I : Inv X pins σ H s2) (rx : RelV x v) (ry : RelV y u) (h : rIxS x y H Q) (k : s.toks + m ≤ s2.toks)
    (hs : subscripted slice false v u = operate [v, u] (getItem v u)) : wpAny (model X.prog X.w) X.A (subscriptTail value slice v u) (fun u s' => ∃ (z : Str) (t : Tok) (H' : Hp), u = .str z t ∧ s.toks + m ≤ t ∧ t < s'.toks ∧ Inv X pins σ H' s' ∧ Q (.str z) H') X.xe s2 := by
  obtain ⟨z, i, c, rfl, rfl, hz, he, q⟩ := h
  obtain ⟨t, rfl⟩ := rx
  obtain ⟨t', rfl⟩ := ry
  obtain ⟨j, h1, h2, h3, h4, h5⟩ := atI_get he
  have hl : z.cps.toList.length = z.length := by simp [Str.length]
  rw [hl] at h1 h4 h5
  have hn := line63
  exact tail_any (typeIs_str s2 z t) slot_str_getitem.lookup (getItem_str (c := c) (by
    have e1 : decide (i < -(2 ^ 63 : Int)) = false := decide_eq_false (by omega)
    have e2 : decide (i ≥ 2 ^ 63) = false := decide_eq_false (by omega)
    rw [e1, e2, Bool.or_false]) (by rw [h1]; simpa using h2) ⟨⟨#[c]⟩, s2.toks, H, rfl, k, Nat.lt_succ_self _, I.tok _, q⟩) hs
theorem pk_ix (ha : PE X a ta) (hb : PE X b tb) (hs : PlainIx b) : PETk X 0 (.Subscript a b pos) (tOp rIxS ta tb) := by
  intro pins s σ H Q I h
  refine Subscript_ (PySem.wpAny_with_toks (Nat.le_refl s.toks) (wpAny_mono (ha.run pins s σ H _ I h) (fun v s1 q1 k1 => ?_) fun _ _ x _ => x))
  obtain ⟨x, H1, I1, r1, q1⟩ := q1
  refine PySem.wpAny_with_toks k1 (wpAny_mono (hb.run pins s1 σ H1 _ I1 q1) (fun u s2 q2 k2 => ?_) fun _ _ x _ => x)
  obtain ⟨y, H2, I2, r2, q2⟩ := q2
  exact tail_tok I2 r1 r2 q2 k2 (hs _ _)
theorem pk_ixc (hb : PE X b tb) (hs : PlainIx b) : PETk X 1 (.Subscript (.Constant (.str cst) j p) b pos) (tOp rIxS (tC (.str cst)) tb) := by
  intro pins s σ H Q I h
  refine Subscript_ (Calls.Constant_str ?_)
  have I1 : Inv X pins σ H { s with toks := s.toks + 1 } := I.tok (s.toks + 1)
  refine PySem.wpAny_with_toks (n := s.toks + 1) (Nat.le_refl _) (wpAny_mono (hb.run pins _ σ H _ I1 h) (fun u s2 q2 k2 => ?_) fun _ _ x _ => x)
  obtain ⟨y, H2, I2, r2, q2⟩ := q2
  exact tail_tok I2 (show RelV (.str cst) (.str cst s.toks) from ⟨s.toks, rfl⟩) r2 q2 k2 (hs _ _)
def tRep2 (to t1 t2 : TE) : TE := fun σ H Q => to σ H fun x H1 => ∃ a, x = .str a ∧ t1 σ H1 fun y H2 => t2 σ H2 fun z H3 => ∃ b c, y = .str b ∧ z = .str c ∧ (b == c) = false ∧ a.length + (a.length + 1) * c.length ≤ 16777216 ∧ Q (.str (Txt.replace a b c)) H3
theorem pe_rep2 (ho : PE X o to) (hc : PETk X 1 e1 t1) (hd : PETk X 0 e2 t2) (hst : starEach [e1, e2] X.env = [(false, eval e1 X.env), (false, eval e2 X.env)] := by rfl)
    (hbase : attributeBase o "replace" X.env (eval o X.env) = eval o X.env := by rfl) (hline : (apos.endLine == pos.line) = true := by rfl) :
    PE X (.Call (.Attribute o "replace" apos) [e1, e2] [] pos) (tRep2 to t1 t2) := by
  refine ⟨fun pins s σ H Q I h => ?_⟩
  refine PySem.Call_method2 hbase hst hline (thn (ho.run pins s σ H _ I h) fun v s1 ⟨x, H1, I1, r1, a, ea, q⟩ => ?_)
  subst ea
  obtain ⟨tx, rfl⟩ := r1
  refine ⟨"str", _, PySem.F.plainAttrs_str, PySem.F.slot_str_replace, PySem.F.type_str_replace, typeIs_str _ _ _, (fun _ e => nomatch e), Calls.callWith_builtin rfl (Calls.evalArgs_plain (Calls.spliced_cons ?_))⟩
  refine thn (hc pins s1 σ H1 _ I1 q) fun u s2 h2 => ?_
  obtain ⟨z, t, H2, eu, k1, k2, I2, q2⟩ := h2
  subst eu
  refine Calls.spliced_cons (thn (hd pins s2 σ H2 _ I2 q2) fun u' s3 h3 => ?_)
  obtain ⟨z', t', H3, eu', k3, k4, I3, q3⟩ := h3
  subst eu'
  refine Calls.spliced_nil ?_
  obtain ⟨b, c, e1, e2, hyz, hb, q⟩ := q3
  cases e1
  cases e2
  have n1 : t ≠ 0 := fun z => by rw [z] at k1; exact absurd k1 (Nat.not_succ_le_zero _)
  have l3 : t < t' := Nat.lt_of_lt_of_le k2 k3
  have n2 : t' ≠ 0 := fun z => by rw [z] at l3; exact absurd l3 (Nat.not_lt_zero _)
  have n3 : t ≠ t' := Nat.ne_of_lt l3
  exact PySem.SC.replace n1 n2 n3 hyz hb fun t' k => ⟨.str _, H3, I3.tok k, ⟨t', rfl⟩, q⟩
end
/-- one sign for one sign -/
theorem repl_one (d c : Nat) : ∀ l : List Nat, StrLaws.replL [d] [c] l = l.map fun e => if e = d then c else e
  | [] => StrLaws.replL_nil
  | e :: r => by
    by_cases h : e = d
    · subst h
      rw [StrLaws.replL_hit (by simp) (by simp), List.map_cons, if_pos rfl]
      show [c] ++ StrLaws.replL [e] [c] r = _
      rw [repl_one e c r]
      rfl
    · rw [StrLaws.replL_miss (by simpa using h), List.map_cons, if_neg h, repl_one d c r]
def mapT (f : Nat → Nat) (x : Str) : Str := ⟨(x.cps.toList.map f).toArray⟩
theorem mapT_list (f : Nat → Nat) (x : Str) : (mapT f x).cps.toList = x.cps.toList.map f := by
  unfold mapT
  rfl
theorem str_ext {x y : Str} (h : x.cps.toList = y.cps.toList) : x = y := by
  have d := Array.toList_inj.mp h
  cases x
  cases y
  exact congrArg Str.mk d
theorem replace_map (x : Str) (d c : Nat) : Txt.replace x ⟨#[d]⟩ ⟨#[c]⟩ = mapT (fun e => if e = d then c else e) x := by
  refine str_ext ?_
  rw [mapT_list, StrLaws.replace_list (by show 1 ≤ 1; exact Nat.le_refl 1)]
  exact repl_one d c _
end Rz

namespace Rz
open PySem PySem.Spec PyProof.Rows L2
/-! ### enumerate(tuple) -/
theorem enu_new {v : Value} {ob : Obj} {G : Heap → Prop} (B : Begins v ob G) : Meets (Builtin.«enumerate.__new__» ⟨[.type "enumerate", v], []⟩) (fun _ R s => G s.heap ∧
    R (.ok (.ret (.ref (s.heap.push ob).objs.size))) { s with heap := (s.heap.push ob).push { cls := .type "enumerate", data := .fields #[.none, .bool false, .ref s.heap.objs.size, rawInt 0, .none, .none] } }) :=
  .of_wp fun prog w A R s h => by
    obtain ⟨hp, gens, dr, tk, os⟩ := s
    obtain ⟨hG, h⟩ := h
    have hsub := sub_enumerate
    have qq : ∀ {A2 : Around} {E2 Q2 : Value → Shared → Prop}, Q2 (.ref hp.objs.size) ⟨hp.push ob, gens, dr, tk, os⟩ → wpAny (model prog w) A2 (pyIter v) Q2 E2 ⟨hp, gens, dr, tk, os⟩ := fun z => B.iter prog w _ _ ⟨hp, gens, dr, tk, os⟩ _ hG z
    wp_walk using qq
    refine wpAny_stack_any fun stk => ?_
    refine wpAny_pure ?_
    split
    · rename_i cc _ _ _ _ _
      cases (cc == Value.type "enumerate")
      case' false => wp_walk using qq
      case' true => wp_walk using qq
      all_goals exact ⟨_, rfl, h⟩
    · wp_walk using qq
      exact ⟨_, rfl, h⟩
section
variable {prog : Program} {w : World} {A : Around} {E : Value → Shared → Prop} {s : Shared}
theorem enu_begins {v : Value} {ob : Obj} {G : Heap → Prop} {Q : Value → Shared → Prop} (B : Begins v ob G) (hG : G s.heap)
    (h : ∀ h2, IsEnum h2 (s.heap.objs.size + 1) s.heap.objs.size 0 .none → h2.get? s.heap.objs.size = some ob → (∀ b o, s.heap.get? b = some o → h2.get? b = some o) → Q (.ref (s.heap.objs.size + 1)) { s with heap := h2 }) :
    wpAny (model prog w) A (call (.type "enumerate") [v]) Q E s := by
  refine callType_new F.called_enumerate (by decide) (F.typeCall_enumerate_1 _) (F.newCall_enumerate_1 _) (fun x => F.args_object_init_2 x _) F.entry_enumerate_new (enu_new B) ⟨hG, ?_⟩
  have hsz : (s.heap.push ob).objs.size = s.heap.objs.size + 1 := Heap.size_push ..
  show _ ∧ _
  rw [hsz]
  have en : IsEnum ((s.heap.push ob).push { cls := .type "enumerate", data := .fields #[.none, .bool false, .ref s.heap.objs.size, rawInt 0, .none, .none] }) (s.heap.objs.size + 1) s.heap.objs.size 0 .none := by
    have z := Heap.get?_push_size (s.heap.push ob) (o := { cls := .type "enumerate", data := .fields #[.none, .bool false, .ref s.heap.objs.size, rawInt 0, .none, .none] }) rfl
    rw [hsz] at z
    exact z
  exact ⟨⟨_, en, rfl⟩, h _ en (Heap.get?_push_of_some _ (Heap.get?_push_size _ B.free)) fun b o x => Heap.get?_push_of_some _ (Heap.get?_push_of_some _ x)⟩
end
/-- the tuple at a, each item in a new pair with its number -/
def IteT (K : PySem.W.Frag) (a : Addr) : It :=
  ⟨fun i H => ∃ (xs : List V) (x : V), SqT K H a xs ∧ xs[i]? = some x, fun i H v H' => ∃ T x, v = .ref T ∧ H T = none ∧ H' = upd H T (.tup [.int (i : Nat), x]) ∧ ∀ xs, SqT K H a xs → xs[i]? = some x, fun i H => ∃ xs : List V, SqT K H a xs ∧ i = xs.length⟩
theorem tne_it {h : Heap} {a it : Addr} {items : Array Value} {i : Nat} (l : IsTup h a items) (t : h.IsTupleIter it a i) : a ≠ it := fun z => by
  obtain ⟨o1, h1, c1, _⟩ := l
  obtain ⟨o2, h2, c2, _⟩ := t
  rw [z, h2] at h1
  obtain rfl := Option.some.inj h1
  rw [c2] at c1
  exact absurd c1 (by decide)
theorem tne_en {h : Heap} {a e it : Addr} {items : Array Value} {c : Int} {old : Value} (l : IsTup h a items) (t : IsEnum h e it c old) : a ≠ e := fun z => by
  obtain ⟨o1, h1, c1, _⟩ := l
  have h2 : h.get? e = _ := t
  rw [z, h2] at h1
  obtain rfl := Option.some.inj h1
  exact absurd (show Value.type "enumerate" = Value.type "tuple" from c1) (by decide)
theorem turn_enumT {P : Program} {w : World} {K : PySem.W.Frag} {elts : List Expr} {kk : Nat} {tpos : Pos} (a e it : Addr) :
    Turn P w K (.Tuple elts kk tpos) (IteT K a) [e, it] e (fun i h => (∃ old, IsEnum h e it ((i : Nat) : Int) old) ∧ h.IsTupleIter it a i ∧ e ≠ it) where
  mem := by simp
  obj := fun i h st b hb => by
    obtain ⟨⟨old, he⟩, ⟨o, ho, hc, hd⟩, _⟩ := st
    rcases (show b = e ∨ b = it by simpa using hb) with rfl | rfl
    · exact ⟨_, he, fun v q => nomatch q⟩
    · exact ⟨o, ho, fun v q => by rw [hd] at q; cases q⟩
  keep := fun i h h' st k => let ⟨⟨old, he⟩, hi, hne⟩ := st; ⟨⟨old, k e (by simp) _ he⟩, hi.at fun o q => k it (by simp) o q, hne⟩
  item := by
    intro X hP hw hK hc i pins s σ H E I hf st hg
    subst hP hw hK
    obtain ⟨⟨old, he⟩, hit, hne⟩ := st
    obtain ⟨xs, x, hq, hx⟩ := hg
    obtain ⟨its, rv, p, hz⟩ := I.tuple hq
    obtain ⟨u, hu, ru⟩ := rv.get hx
    have le : e < s.heap.objs.size := Heap.lt_size he
    have li : it < s.heap.objs.size := by obtain ⟨_, q, _⟩ := hit; exact Heap.lt_size q
    have D := Draws.tuple (prog := X.prog) (w := X.w) (A := X.A.in1) (I.ok.hd hc) it a (tne_it p hit) its.toArray
    have lt : i < its.toArray.size := by
      have q := (List.getElem?_eq_some_iff.mp hu).1
      rw [List.size_toArray]
      exact q
    refine wpAny_pyNext_enum_itemC D he ⟨hit, p⟩ lt hne (by
      have q := tne_en p he
      simp [hne, Ne.symm q]) fun u1 h1 tk hu1 ho hit1 hT hsz hk => ?_
    obtain rfl : u1 = u := by
      rw [List.getElem?_toArray, hu] at hu1
      exact (Option.some.inj hu1).symm
    refine ⟨_, rfl, wpAny_letOwnedTupleGo_enum (s := { s with heap := h1, toks := tk + 1 }) ho fun h2 he2 sb => ?_⟩
    have at2 : h2.get? s.heap.objs.size = some { cls := .type "tuple", data := .seq #[.int (i : Nat) tk, u1] } := (sb.2 _ (Nat.ne_of_gt le)).trans hT
    have nw : ObjOk X.prog X.w (upd H s.heap.objs.size (.tup [.int (i : Nat), x])) h2 s.heap.objs.size (.tup [.int (i : Nat), x]) :=
      ⟨by show 2 ≤ sizeLine; decide, [.int (i : Nat) tk, u1], .cons ⟨_, rfl⟩ (.cons ru .nil), ⟨_, at2, rfl, _, rfl⟩⟩
    have J : Inv X pins σ (upd H s.heap.objs.size (.tup [.int (i : Nat), x])) { s with heap := h2, toks := tk + 1 } :=
      I.turnedNew (t' := tk + 1) (ch := [e, it]) (fun b ob hb q => (sb.2 b (fun z => hb (by simp [z]))).trans (hk b ob (fun z => hb (by simp [z])) (fun z => hb (by simp [z])) q)) hf (Nat.le_refl _) nw
    refine ⟨.ref s.heap.objs.size, _, J, rfl, ⟨_, x, rfl, I.hok.fresh (Nat.le_refl _), rfl, fun ys hy => by rw [I.tuple_inj hy hq]; exact hx⟩, ⟨⟨u1, ?_⟩, hit1.1.at fun o q => (sb.2 it (Ne.symm hne)).trans q, hne⟩, fun b hb => ?_⟩
    · have e1 : ((i + 1 : Nat) : Int) = (i : Int) + 1 := by omega
      rw [e1]
      exact he2
    · have lb : b < s.heap.objs.size := by
        rcases (show b = e ∨ b = it by simpa using hb) with rfl | rfl
        · exact le
        · exact li
      rw [upd_ne (Nat.ne_of_lt lb)]
      exact (hf b hb).1
  done := by
    intro X hP hw hK hc i pins s σ H E I hf st hg
    subst hP hw hK
    obtain ⟨⟨old, he⟩, hit, hne⟩ := st
    obtain ⟨xs, hq, hx⟩ := hg
    obtain ⟨its, rv, p, hz⟩ := I.tuple hq
    obtain ⟨f0, f1, f2, f3, f4, f5⟩ := hf it (by simp)
    have hl := rv.length
    have D := Draws.tuple (prog := X.prog) (w := X.w) (A := X.A.in1) (I.ok.hd hc) it a (tne_it p hit) its.toArray
    obtain rfl : i = its.toArray.size := by
      rw [List.size_toArray]
      omega
    exact wpAny_pyNext_enum_endD D he ⟨hit, p⟩ fun h' eb => ⟨rfl, I.turned (t' := s.toks) (fun b o hb q => eb b o hb q) f0 f1 f3 f4 f5⟩
  self := fun A i s Q E st h => let ⟨⟨_, he⟩, _⟩ := st; wpAny_pyIter_enum he h
def iEnumT (K : PySem.W.Frag) (ta : TA) : TI := fun σ H R => ta σ H fun vs H1 => ∃ a xs, vs = [.ref a] ∧ SqT K H1 a xs ∧ R (IteT K a) H1
theorem pi_enumT {X : Cx} {e : Expr} {ta : TA} {p pos tpos : Pos} {elts : List Expr} {kk : Nat} (hg : Gl X "enumerate") (hm : X.mg "enumerate" = none) (ha : PA X [e] ta) (hs : starEach [e] X.env = [(false, eval e X.env)] := by rfl) :
    PI X (.Tuple elts kk tpos) (.Call (.Name "enumerate" p) [e] [] pos) (iEnumT X.K ta) := by
  refine ⟨fun pins s σ H R I h => ?_⟩
  refine Call_ (ld_blt I hg hm boot_enumerate (PyProof.Rows.callWith_type1 (thn (ha.run pos pins s σ H _ I h) fun us s1 ⟨vs, H1, I1, r1, q1⟩ => ?_) hs rfl))
  obtain ⟨a, xs, rfl, hq, q⟩ := q1
  obtain ⟨u, rfl, ru⟩ := vals1 r1
  obtain rfl : u = Value.ref a := ru
  obtain ⟨its, rv, pl, hz⟩ := I1.tuple hq
  refine enu_begins (begins_tuple a its.toArray) pl fun h' he hit hk => wpAny_pyIter_enum he ?_
  have J : Inv X pins σ H1 { s1 with heap := h' } := I1.kept (t' := s1.toks) hk
  refine ⟨s1.heap.objs.size + 1, [s1.heap.objs.size + 1, s1.heap.objs.size], _, _, H1, rfl, J, turn_enumT a (s1.heap.objs.size + 1) s1.heap.objs.size, ⟨⟨.none, he⟩, ⟨_, hit, rfl, rfl⟩, Nat.succ_ne_self _⟩, fun b hb => ?_, q⟩
  have le : s1.heap.objs.size ≤ b := by
    rcases (show b = s1.heap.objs.size + 1 ∨ b = s1.heap.objs.size by simpa using hb) with z | z
    · rw [z]; exact Nat.le_add_right _ _
    · rw [z]; exact Nat.le_refl _
  exact I1.fpOk le (I1.hok.fresh le)
theorem walk_enumT {K : PySem.W.Frag} {a : Addr} {xs : List V} : Walk (IteT K a) xs.length (fun H => SqT K H a xs) (fun i H v H' => ∃ T x, v = .ref T ∧ H T = none ∧ H' = upd H T (.tup [.int (i : Nat), x]) ∧ xs[i]? = some x) :=
  ⟨fun i H hi h => ⟨xs, _, h, List.getElem?_eq_getElem hi⟩, fun H h => ⟨xs, h, rfl⟩, fun i H v H' _ h y => by
    obtain ⟨T, x, e1, e2, e3, e4⟩ := y
    exact ⟨T, x, e1, e2, e3, e4 xs h⟩⟩
end Rz

namespace Rz
open PySem PySem.Spec PyProof.Rows L2
/-! ### o.m(e, .., k = v) -/
section
variable {X : Cx} {CX : CXT} {k n : Nat} {f C : Addr} {fd : FuncData} {ps ks : List Str} {sp : Sp} {E : EX} {m : Str} {pos apos : Pos} {e o : Expr} {es : List Expr} {kws : List Keyword} {ta : TE} {t tk : TA} {gg : List Value → List Value → List Value} {gV : List V → List V → List V}
def tMtK (C : Addr) (m : Str) (n mm : Nat) (sp : Sp) (gV : List V → List V → List V) (E : EX) (ta : TE) (t tk : TA) : TE := fun σ H Q => ta σ H fun x H1 => ∃ a dx fs, x = .ref a ∧ H1 a = some (.ins C dx fs) ∧ fs.lookup m = none ∧
  t σ H1 fun vs H2 => tk σ H2 fun zs H3 => vs.length + 1 = n ∧ zs.length = mm ∧ sp (gV (V.ref a :: vs) zs) H3 Q (E σ)
theorem pe_mtK {pl : Sem Bool} (he : PE X o ta) (c : Cls X.K C) (hm : Meth X.K C m f) (F : FnOk X.prog X.w X.K X.mg X.base CX k f fd ps sp) (hr : Room k X.A) (hb : KBn X.K fd ps n ks gg gV) (hx : ∀ σ, PassesAt CX X σ (E σ)) (ha : PA X (e :: es) t) (hkw : PK X kws tk)
    (hall : (backToKw pos (keywordEach kws X.env)).all (·.1.isSome) = true := by rfl) (hks : (backToKw pos (keywordEach kws X.env)).filterMap (·.1) = ks := by rfl)
    (hst : starEach (e :: es) X.env = (false, eval e X.env) :: starEach es X.env := by rfl) (hpl : ((backTo pos (starEach (e :: es) X.env)).any (·.1) || (backToKw pos (keywordEach kws X.env)).any (·.1.isNone)) = false := by rfl)
    (ht : eval (.Call (.Attribute o m apos) (e :: es) kws pos) X.env = (do
      let ov ← eval o X.env
      standAt apos.atName
      let (f, first) ← holding [ov] (getMethod ov m pl)
      callWith pos f first (backTo pos (starEach (e :: es) X.env)) (backToKw pos (keywordEach kws X.env))) := by rfl) :
    PE X (.Call (.Attribute o m apos) (e :: es) kws pos) (tMtK C m n ks.length sp gV E ta t tk) := by
  refine ⟨fun pins s σ H Q I h => PySem.W.methodCall_KW (pl := pl) (thn (he.run pins s σ H _ I h) fun u s1 hh => ?_) ht⟩
  obtain ⟨x, H1, J, rx, a, dx, fs, rfl, ea, l, q⟩ := hh
  obtain rfl : u = Value.ref a := rx
  refine getmeth_ok J ea c hm l (PySem.W.callWith_KW (first := [.ref a]) (h₀ := X.base) I.ok.mod.kin hm.kp hall (thn (ha.run pos pins s1 σ H1 _ J q) fun us s2 ⟨vs, H2, I2, r, q2⟩ => thn (hkw.run pos pins s2 σ H2 _ I2 q2) fun ws s3 hh3 => ?_) hpl hst)
  obtain ⟨zs, H3, I3, rz, l1, l2, q3⟩ := hh3
  refine ⟨I3.kIn, ?_⟩
  rw [hks]
  have ra : Vals (V.ref a :: vs) (Value.ref a :: us) := .cons rfl r
  refine wpAny_call (codeAny_mono (F.run X.A X.stack s3 H3 ⟨.ref a :: us, ks.zip ws⟩ (gg (.ref a :: us) ws) (gV (.ref a :: vs) zs) Q (E σ) hr I3.env0 (hb.to s3 _ ws I3.kIn (by rw [List.length_cons, ← r.length]; exact l1) (rz.length.symm.trans l2)) (hb.rel ra rz) q3) fun q s' hq => ?_)
  match q, hq with
  | .error er, hq => exact hx σ pins H3 s3 er s' I3 hq
  | .ok (.ret u), hq => exact I3.after hq
  | .ok .next, hq => exact False.elim hq
  | .ok .brk, hq => exact False.elim hq
  | .ok .cont, hq => exact False.elim hq
end
/-- all keywords are written, no default is asked for -/
theorem kbF {K : PySem.W.Frag} {x qual : Str} {st : Stmt} {f : Addr} {fd : FuncData} {ps : List Str} (F : Fun K x qual st f fd) (n : Nat) (ks : List Str)
    (h : ∀ (kV doc pm : Value) (an : Option Addr) (cdv ct : Value) (us ws : List Value), us.length = n → ws.length = ks.length → bindArgs (PySem.W.fnOf x qual (defArgs st) (defBody st) (defScope st) .none kV doc pm an cdv ct) ⟨us, ks.zip ws⟩ = pure (ps.zip (us ++ ws))) :
    KBn K fd ps n ks (fun us ws => us ++ ws) (fun vs zs => vs ++ zs) := by
  obtain ⟨oc, od, kV, doc, pm, an, cdv, ct, osl, rfl, lk, hcd⟩ := F.ex
  exact ⟨fun s us ws X l1 l2 => BindsTo.of_looks fun M => PySem.W.Looks.of_pure (h kV doc pm an cdv ct us ws l1 l2), fun r1 r2 => r1.append r2⟩
theorem kbD {K : PySem.W.Frag} {x qual : Str} {params : Arguments} {body : List Stmt} {scope : Scope} {kws : List (Str × V)} {f : Addr} {fd : FuncData} {ps : List Str} (F : FunD K x qual params body scope [] kws f fd) (n : Nat) (ks : List Str)
    (h : ∀ (kV doc pm : Value) (an : Option Addr) (cdv ct : Value) (us ws : List Value), us.length = n → ws.length = ks.length → bindArgs (PySem.W.fnOf x qual params body scope .none kV doc pm an cdv ct) ⟨us, ks.zip ws⟩ = pure (ps.zip (us ++ ws))) :
    KBn K fd ps n ks (fun us ws => us ++ ws) (fun vs zs => vs ++ zs) := by
  obtain ⟨oc, od, dV, kV, doc, pm, an, cdv, ct, osl, rfl, lk, hcd, hD, hK⟩ := F.ex
  rcases hD with ⟨_, rfl⟩ | ⟨e, _⟩
  · exact ⟨fun s us ws X l1 l2 => BindsTo.of_looks fun M => PySem.W.Looks.of_pure (h kV doc pm an cdv ct us ws l1 l2), fun r1 r2 => r1.append r2⟩
  · exact absurd rfl e
end Rz

namespace Rz
open PySem PySem.Spec PyProof.Rows L2 L2H HotX
/-! ### an error class's __init__ (super().__init__, one field) while an exception is handled -/
/-- .. while an exception is handled -/
def cxSH (P : Program) (w : World) (K : PySem.W.Frag) (mg : Str → Option Value) (base : Heap) (N : List Str) (qual : Str) (scope : Scope) (f : Addr) (cd : Value) (cc : Addr) (A : Around) (outer : List Env) (s : Shared) (H : Hp) (pn : Addr × Obj) : Cx :=
  { cxS P w K mg base N qual scope f cd cc A outer s H with calm := false, pn := [pn] }
section
variable {P : Program} {w : World} {K : PySem.W.Frag} {mg : Str → Option Value} {base : Heap}
theorem exsup_okH {CX : CXT} {k : Nat} {C f cc cda : Addr} {qual fld : Str} {params : Arguments} {body : List Stmt} {scope : Scope} {oc kV doc pm ct ccl cl : Value} {od an cdd cld : Option Addr} {osl ccs csl : Array (Option Value)} {vs5 : Array Value} {file : Str} {tf : Tok} {ar : Arg}
    {p0 p1 p2 p3 p4 q1 q2 q3 q4 : Pos} {e : Expr}
    (T : OexC K C)
    (lk : K.lookup f = some ⟨oc, od, .func (PySem.W.ksFn "__init__" qual params body scope .none kV doc pm an (.ref cda) ct cc), osl⟩) (hcd : PySem.W.codeIn K (.ref cda) qual = true)
    (hcode : K.lookup cda = some ⟨ccl, cdd, .fields vs5, ccs⟩) (hvs : vs5[2]? = some (.str file tf)) (hfile : ((P.main.file : Str) == file) = true)
    (hcell : K.lookup cc = some ⟨cl, cld, .cell (some (.ref C)), csl⟩)
    (hops : PySem.W.nsIn K cStatics "thirdparty.any" = some none) (hsuper : mg "super" = none)
    (hsin : PySem.W.ks_superIn K C C "__init__" = some (some (.builtin "ValueError.__init__")))
    (hB : PySem.W.subIn K (.ref C) (.type "ValueError") = some true) (hCC : PySem.W.mroIn K C (.ref C) = some true) (noN : PySem.W.findIn K (.ref C) fld = some none)
    (htop : (P.main.scope.names.lookup ("super" : Str)).isSome = false)
    (hbody : body = [.Expr (.Call (.Attribute (.Call (.Name "super" p0) [] [] p1) "__init__" p2) [e] [] p3) p4, .Assign [.Attribute (.Name "self" q1) fld q2] (.Name fld q3) q4])
    (hp : (params.posonlyargs ++ params.args).head? = some ar) (har : ar.arg = "self")
    (hks : scope.names.lookup ("super" : Str) = some .globalImplicit) (hkc : scope.names.lookup ("__class__" : Str) = some .free) (hka : scope.names.lookup ("self" : Str) = some .local) (hkf : scope.names.lookup fld = some .local)
    (hkind : scope.kind = .function) (hco : scope.isCoroutine = false) (hgen : scope.isGenerator = false) (hnc : ∀ x ∈ scope.names, x.2 ≠ .cell) (honly : ∀ x, scope.names.lookup x = some .free → x = "__class__") (hnd : fld ≠ "self")
    (hdb : (fld == ("__debug__" : Str)) = false) (hdc : (fld == ("__classdict__" : Str)) = false)
    (hmsg : ∀ X : Cx, X.N = [("self" : Str), fld] → X.env.scope = scope → ∃ t, PE X e t ∧ ∀ (σ : L2.St) (n : Int) (H : Hp) (Q : VK), σ[1]? = some (some (.int n)) → n.natAbs.log2 < 1920 → (∀ z : Str, Q (.str z) H) → t σ H Q)
    (hst : ∀ (L : Addr), starEach [e] (PySem.W.ksEnv qual scope L f (.ref cda) cc) = (false, eval e (PySem.W.ksEnv qual scope L f (.ref cda) cc)) :: starEach [] (PySem.W.ksEnv qual scope L f (.ref cda) cc))
    {pl : Sem Bool} (hms : ∀ (L : Addr), eval (.Call (.Attribute (.Call (.Name "super" p0) [] [] p1) "__init__" p2) [e] [] p3) (PySem.W.ksEnv qual scope L f (.ref cda) cc) = (do
      let ov ← attributeBase (.Call (.Name "super" p0) [] [] p1) "__init__" (PySem.W.ksEnv qual scope L f (.ref cda) cc) (eval (.Call (.Name "super" p0) [] [] p1) (PySem.W.ksEnv qual scope L f (.ref cda) cc))
      standAt p2.atName
      let (g, first) ← holding [ov] (getMethod ov "__init__" pl)
      callWith p3 g first (backTo p3 (starEach [e] (PySem.W.ksEnv qual scope L f (.ref cda) cc))) [])) :
    FnH P w K mg base CX (k + 1) f (PySem.W.ksFn "__init__" qual params body scope .none kV doc pm an (.ref cda) ct cc) ["self", fld] (spExI C fld) := by
  refine ⟨fun vs H Q E h => ?_, fun A outer s H args us vs Q E pn hr hot hpin e0 hb r hsp => ?_⟩
  · obtain ⟨a, n, rfl, _⟩ := h
    rfl
  obtain ⟨a, n, rfl, hn, ha, hk⟩ := hsp
  obtain ⟨u0, u1, rfl, r0, r1⟩ := vals2 r
  obtain rfl : u0 = Value.ref a := r0
  obtain ⟨tk, rfl⟩ := r1
  have KX : K.In s.heap := e0.mod.kin.keeps fun b o q => (e0.bs b o q).1
  have lim : s.heap.NoLimit := e0.mod.nolimit.keeps fun b o q => (e0.bs b o q).1
  refine PySem.ks_codeAny_call_defAt (body := body) (binds := (["self", fld] : List Str).zip [Value.ref a, Value.int n tk]) hr.depth (KX _ _ lk) rfl lim (PySem.W.codeRec_of KX hcd) rfl hb hnc (fun x hx => ?_) (fun h1 hns hk1 => ?_) hco hgen hkind
  · have hx' : x = (("self" : Str), Value.ref a) ∨ x = (fld, Value.int n tk) := by simpa using hx
    rcases hx' with rfl | rfl
    · exact hka
    · exact hkf
  have hne : (("self" : Str) == fld) = false := by simpa using Ne.symm hnd
  have nocell : ∀ x, scope.names.lookup x ≠ some .cell := fun x hx => hnc _ (PySem.mem_of_lookup hx) rfl
  have cells : ∀ {x c}, (cxSH P w K mg base ["self", fld] qual scope f (.ref cda) cc A outer s H pn).env.cells.lookup x = some c → c = cc := fun h => one_lookup h
  have freeCC : H cc = none := (e0.bs _ _ (e0.mod.kin _ _ hcell)).2
  have I : Inv (cxSH P w K mg base ["self", fld] qual scope f (.ref cda) cc A outer s H pn) [] [some (.ref a), some (.int n)] H { s with heap := h1, toks := s.toks + 2 } := by
    have noA : ∀ b : Addr, b ∉ (cxSH P w K mg base ["self", fld] qual scope f (.ref cda) cc A outer s H pn).ex := fun b z => absurd (show b ∈ ([] : List Addr) from z) (by simp)
    refine ⟨⟨e0.mod, hkind, rfl, rfl, Nat.le_refl _, fun y z c h1 h2 => ?_, fun y hy => ?_, fun y c z _ => ?_, (fun z => Bool.noConfusion (show false = true from z)), Around.frames_deeper e0.frames, .inr ⟨rfl, rfl⟩, fun b z => absurd z (noA b), e0.bs, e0.bsz, fun b _ _ => noA b, fun b z => absurd z (noA b), e0.funs, e0.frf⟩,
      rfl, e0.bare, Un.kept hk1, ⟨_, hns, fun i y v h1 h2 h3 => ?_⟩, fun y c h => ?_, e0.hok.fresh (Nat.le_refl _), fun y c h => ?_, fun q hq => ?_, e0.hok.kept hk1, rfl⟩
    · have k1 : ∀ {y c}, List.lookup y [(("__class__" : Str), cc)] = some c → y = "__class__" := fun {y c} q => by
        by_cases z : y = "__class__"
        · exact z
        · have e2 : (y == ("__class__" : Str)) = false := by simpa using z
          simp [List.lookup, e2] at q
      rw [k1 h1, k1 h2]
    · rcases hy with hy | hy
      · exact absurd hy (nocell y)
      · have e1 := honly y hy
        subst e1
        exact ⟨cc, rfl⟩
    · exact Bool.noConfusion (show false = true from z)
    · refine match i, h1, h2 with
        | 0, h1, h2 => ?_
        | 1, h1, h2 => ?_
        | i + 2, h1, h2 => ?_
      · have e1 : ("self" : Str) = y := Option.some.inj h1
        have e2 : V.ref a = v := Option.some.inj (Option.some.inj h2)
        subst e1
        subst e2
        exact ⟨.ref a, rfl, .inl ⟨hka, by simp [List.lookup, hne]⟩⟩
      · have e1 : fld = y := Option.some.inj h1
        have e2 : V.int n = v := Option.some.inj (Option.some.inj h2)
        subst e1
        subst e2
        exact ⟨.int n tk, ⟨tk, rfl⟩, .inl ⟨hkf, by simp [List.lookup]⟩⟩
      · exact absurd h1 (by simp [cxSH, cxS])
    · rw [cells h]
      exact ⟨_, _, hk1 _ _ (KX _ _ hcell), rfl⟩
    · rw [cells h]
      exact freeCC
    · have eqp : q = pn := by simpa using (show q ∈ [pn] ++ ([] : List (Addr × Obj)) from hq)
      rw [eqp]
      exact ⟨hk1 pn.1 pn.2 hpin.get, hpin.free, Nat.ne_of_lt (Heap.lt_size hpin.get), hpin.nofs, hpin.nocell⟩
  subst hbody
  have KX1 : K.In h1 := KX.keeps hk1
  obtain ⟨nm, q, N, bs, bm, sn, sub, ab, col, dd, k0, k1, k2, k3, k5, hC, hbm⟩ := id T.cls
  have hcl : PySem.W.clsIn K C = some { name := nm, bases := bs, mro := .ref C :: bm, ns := N, qualname := q, hasDict := true, slotNames := sn, subclasses := sub, abstract := ab, collection := col, hasDel := false } := by unfold PySem.W.clsIn; rw [hC] <;> rfl
  obtain ⟨t1, ho⟩ := exo_at I.hok ha
  obtain ⟨mb, b1, b2⟩ := I.mod.blt
  obtain ⟨hh, g, d, t0, os⟩ := s
  have hac : a ≠ C := fun z => by
    have z1 := KX1 _ _ hC
    rw [← z] at z1
    have z2 := z1.symm.trans ho
    cases z2
  refine PySem.ks_wpAt_execs_cons (PySem.ks_wpAt_Expr_any (PySem.ks_wpAt_MethodCall (pl := pl) ?_ (hms _)) I.quiet rfl)
  refine PySem.ks_wpAt_super_base hks hkc (by decide) rfl (KX1 _ _ lk) rfl hp rfl (KX1 _ _ hcode) rfl hvs hfile htop ?_
  refine PySem.W.ks_loadName_global hkind hks (Calls.loadGlobal_builtin (I.mod.glob.keeps I.bk) hsuper (b1.keeps I.bk) ((b2 "super" (by decide)).trans (by decide +kernel : bootBuiltins "super" = some (.type "super"))) ⟨rfl, ?_⟩)
  refine wpAny_loadName_free hkind hkc rfl ⟨_, KX1 _ _ hcell, rfl⟩ ?_
  rw [har]
  refine wpAny_loadName_local (v := .ref a) hkind hka hns (by simp [List.lookup, hne]) ?_
  refine PySem.ks_wpAny_isType_cls (KX1 _ _ hC) rfl ⟨rfl, ?_⟩
  refine PySem.ks_wpAny_call_super (KX1 _ _ hC) rfl ho rfl (fun c z => by cases z) (PySem.W.looks_mroIn KX1 hCC) (fun h2 e2 kk2 => ?_)
  have I2 := I.kept (t' := t0 + 2) kk2
  have KX2 := KX1.keeps kk2
  have ho2 := kk2 _ _ ho
  have hI : PySem.W.Looks (model P w) h2 (isInstance (.ref a) (.type "ValueError")) true :=
    (PySem.W.InstAt.type (M := model P w) (ox := { cls := .ref C, data := .fields #[.ref t1, .none, .none, .none, .bool false, .none] }) (od := none) ⟨ho2, rfl, rfl, trivial⟩).andThen (PySem.W.looks_subIn KX2 hB)
  have hsin2 : PySem.W.alongIn K "__init__" (((Value.ref C :: bm).dropWhile (· != .ref C)).drop 1) = some (some (.builtin "ValueError.__init__")) := by
    unfold PySem.W.ks_superIn at hsin
    rw [hcl] at hsin
    exact hsin
  refine PySem.W.kxs_getMethod PySem.W.kxs_ValueError e2 (PySem.W.looks_opaque KX2 hops) (l₀ := .ref C :: bm) ?_ rfl KX2 hsin2 hI hac (by decide) ?_
  · exact fun A Q E s k q => wpAny_bind ((PySem.W.looks_clsIn KX2 hcl) A _ E s k (wpAny_pure q))
  have kk3 : ∀ b o, h2.get? b = some o → (h2.push (PySem.W.kxs_mw "ValueError.__init__" a)).get? b = some o := fun b o q => Heap.get?_push_of_some _ q
  have I3 := I2.kept (t' := t0 + 2 + 1) kk3
  have hu : (h2.push (PySem.W.kxs_mw "ValueError.__init__" a)).get? h2.objs.size = some (PySem.W.kxs_mw "ValueError.__init__" a) := Heap.get?_push_at rfl rfl
  have I4 := I3.pins_of (pins' := [(h2.objs.size, PySem.W.kxs_mw "ValueError.__init__" a)]) (fun p hp => by
    obtain rfl : p = (h2.objs.size, PySem.W.kxs_mw "ValueError.__init__" a) := by simpa using hp
    refine ⟨hu, I2.hok.fresh (Nat.le_refl _), fun z => ?_, I2.nofs (Nat.le_refl _), fun v z => by cases z⟩
    have z1 := I2.lt
    rw [← z] at z1
    exact Nat.lt_irrefl _ z1)
  obtain ⟨te, pe, rd⟩ := hmsg (cxSH P w K mg base ["self", fld] qual scope f (.ref cda) cc A outer ⟨hh, g, d, t0, os⟩ H pn) rfl rfl
  have pa := pa_cons pe pa_nil (hst _)
  have e3 : backTo p3 (starEach [e] (PySem.W.ksEnv qual scope hh.objs.size f (.ref cda) cc)) = (false, eval e (PySem.W.ksEnv qual scope hh.objs.size f (.ref cda) cc)) :: backTo p3 (starEach [] (PySem.W.ksEnv qual scope hh.objs.size f (.ref cda) cc)) := by rw [hst]; rfl
  refine PySem.W.kxs_callWith (i := "ValueError.__init__") (x := a) (by show (backTo p3 (starEach [e] (PySem.W.ksEnv qual scope hh.objs.size f (.ref cda) cc))).any (·.1) = false; rw [e3]; rfl) ?_
  show wpAny _ _ (evalArgs _ true (backTo p3 (starEach [e] (PySem.W.ksEnv qual scope hh.objs.size f (.ref cda) cc))) []) _ _ _
  rw [e3]
  refine Calls.evalArgs_plain ?_
  rw [← e3]
  refine wpAny_mono (pa.run p3 _ _ _ _ (fun vs H' => (∃ z, vs = [V.str z]) ∧ H' = H) I4 (rd _ n H _ rfl hn fun z => ⟨⟨z, rfl⟩, rfl⟩)) (fun us s5 hu5 => ?_) fun _ _ z => z.elim
  obtain ⟨vs, H', I5, r5, ⟨z, rfl⟩, rfl⟩ := hu5
  have hu6 := (I5.pin (h2.objs.size, PySem.W.kxs_mw "ValueError.__init__" a) (List.mem_append_right _ (by simp))).1
  refine ⟨hu6, ?_⟩
  obtain ⟨uz, rfl, _⟩ := vals1 r5
  refine call_mw T I5 ha (by show 1 ≤ sizeLine; decide) hu6 fun s6 I6 => ?_
  show PySem.wpAt _ _ _ (execs _ _) _ _ _
  refine wpAt_of_wpAny ?_
  have J6 := I6.pins_of (pins' := []) (fun p hp => by cases hp)
  have ps : PSs (cxSH P w K mg base ["self", fld] qual scope f (.ref cda) cc A outer ⟨hh, g, d, t0, os⟩ H' pn) [.Assign [.Attribute (.Name "self" q1) fld q2] (.Name fld q3) q4] (tOst K fld (tVar 0) (tVar 1)) :=
    pss_one (ps_ost (pe_var rfl (.inl hka)) (pe_var rfl (.inl hkf) hdb hdc) rfl)
  refine wpAny_mono (ps.run [] s6 _ H' { nx := fun _ H2 => Q .non H2, rt := fun _ _ => False } J6 ⟨_, rfl, _, rfl, a, C, rfl, T, noN, .inl ⟨ha, hk⟩⟩) (fun fl s7 hs => ?_) fun _ _ z => z.elim
  cases fl with
  | next =>
    obtain ⟨σ7, H7, J, q7⟩ := hs
    exact ⟨.non, H7, J.os, J.bare, J.base, J.hok, rfl, q7⟩
  | ret u =>
    obtain ⟨_, _, _, _, _, q7⟩ := hs
    exact q7.elim
  | brk =>
    obtain ⟨_, _, _, q7⟩ := hs
    exact q7.elim
  | cont =>
    obtain ⟨_, _, _, q7⟩ := hs
    exact q7.elim
end
theorem exinit_okH {P : Program} {w : World} {K : PySem.W.Frag} {mg : Str → Option Value} {base : Heap} {CX : CXT} {C f : Addr} {fd : FuncData} {fld : Str} {st : Stmt} {ar : Arg} {p0 p1 p2 p3 p4 q1 q2 q3 q4 : Pos} {e : Expr}
    (T : OexC K C) (I : ExInit P K mg C f fd fld st)
    (hbody : defBody st = [.Expr (.Call (.Attribute (.Call (.Name "super" p0) [] [] p1) "__init__" p2) [e] [] p3) p4, .Assign [.Attribute (.Name "self" q1) fld q2] (.Name fld q3) q4])
    (hp : ((defArgs st).posonlyargs ++ (defArgs st).args).head? = some ar) (har : ar.arg = "self")
    (hks : (defScope st).names.lookup ("super" : Str) = some .globalImplicit) (hkc : (defScope st).names.lookup ("__class__" : Str) = some .free) (hka : (defScope st).names.lookup ("self" : Str) = some .local) (hkf : (defScope st).names.lookup fld = some .local)
    (hkind : (defScope st).kind = .function) (hco : (defScope st).isCoroutine = false) (hgen : (defScope st).isGenerator = false)
    (hnc : ((defScope st).names.all fun x => decide (x.2 ≠ .cell)) = true) (hfr : ((defScope st).names.all fun x => decide (x.2 = .free → x.1 = "__class__")) = true) (hnd : fld ≠ "self")
    (hdb : (fld == ("__debug__" : Str)) = false) (hdc : (fld == ("__classdict__" : Str)) = false)
    (hmsg : ∀ X : Cx, X.N = [("self" : Str), fld] → X.env.scope = defScope st → ∃ t, PE X e t ∧ ∀ (σ : L2.St) (n : Int) (H : Hp) (Q : VK), σ[1]? = some (some (.int n)) → n.natAbs.log2 < 1920 → (∀ z : Str, Q (.str z) H) → t σ H Q)
    (hst : ∀ (qual : Str) (L cda cc : Addr), starEach [e] (PySem.W.ksEnv qual (defScope st) L f (.ref cda) cc) = (false, eval e (PySem.W.ksEnv qual (defScope st) L f (.ref cda) cc)) :: starEach [] (PySem.W.ksEnv qual (defScope st) L f (.ref cda) cc))
    {pl : Sem Bool} (hms : ∀ (qual : Str) (L cda cc : Addr), eval (.Call (.Attribute (.Call (.Name "super" p0) [] [] p1) "__init__" p2) [e] [] p3) (PySem.W.ksEnv qual (defScope st) L f (.ref cda) cc) = (do
      let ov ← attributeBase (.Call (.Name "super" p0) [] [] p1) "__init__" (PySem.W.ksEnv qual (defScope st) L f (.ref cda) cc) (eval (.Call (.Name "super" p0) [] [] p1) (PySem.W.ksEnv qual (defScope st) L f (.ref cda) cc))
      standAt p2.atName
      let (g, first) ← holding [ov] (getMethod ov "__init__" pl)
      callWith p3 g first (backTo p3 (starEach [e] (PySem.W.ksEnv qual (defScope st) L f (.ref cda) cc))) [])) :
    FnH P w K mg base CX 1 f fd ["self", fld] (spExI C fld) := by
  obtain ⟨qual, oc, kV, doc, pm, ct, ccl, cl, od, an, cdd, cld, osl, ccs, csl, vs5, file, tf, cc, cda, rfl, lk, hcd, hcode, hvs, hfile, hcell⟩ := I.ex
  refine exsup_okH (k := 0) T lk hcd hcode hvs hfile hcell I.ops I.nsup I.sin I.sub I.mro I.noN I.top hbody hp har hks hkc hka hkf hkind hco hgen (fun x hx => ?_) (fun x hx => ?_) hnd hdb hdc hmsg (fun L => hst qual L cda cc) (fun L => hms qual L cda cc)
  · exact of_decide_eq_true (List.all_eq_true.mp hnc x hx)
  · exact of_decide_eq_true (List.all_eq_true.mp hfr _ (PySem.mem_of_lookup hx)) rfl

/-! ### C(e, ..) where nothing is handled: the new error's context is None -/
section
variable {X : Cx} {CX : CXT} {x : Str} {e : Expr} {es : List Expr} {ta : TA} {p pos : Pos} {C fI : Addr} {k : Nat} {fd : FuncData} {ps : List Str} {sp : Sp}
theorem pmkN_oex (T : OexC X.K C) (iC : PySem.W.findIn X.K (.ref C) "__init__" = some (some (.ref fI))) (tI : PySem.W.typeIn X.K (.ref fI) = some (.type "function")) (G1 : FnOk X.prog X.w X.K X.mg X.base CX k fI fd ps sp) (hr : Room (k + 1) X.A) (hb : Binds X.K fd ps []) (hx : Passes CX X E0)
    (hg : Gl X x) (hm : X.mg x = some (.ref C)) (ha : PA X (e :: es) ta) (hdb : (x == ("__debug__" : Str)) = false := by decide) (he : starEach (e :: es) X.env = (false, eval e X.env) :: starEach es X.env := by rfl) (hpl : (backTo pos (starEach es X.env)).any (·.1) = false := by rfl) :
    L2N.PMk X (.Call (.Name x p) (e :: es) [] pos) (tMkO C sp [] ta) := by
  intro pins s0 σ H0 Q I0 h0
  obtain ⟨z1, z2, z3, z4, bm, z5, z6, z7, z8, z9, y0, y1, y2, y3, y5, cC, vE⟩ := T.cls
  refine wpAny_Call_Name_kw (ld_glob I0 hg hm (PySem.W.callWith_K (h₀ := X.base) I0.ok.mod.kin T.kC (thn (ha.run pos pins s0 σ H0 _ I0 h0) fun ws sa qa => ?_) he hpl) hdb)
  obtain ⟨xs, Ha, Ia, ra, small, qa⟩ := qa
  refine ⟨Ia.kIn, ?_⟩
  obtain ⟨hq, gn, dr, tks, oss⟩ := sa
  have up1 : hq.objs.size ≤ hq.objs.size + 1 := Nat.le_succ _
  have free1 : Ha (hq.objs.size + 1) = none := Ia.hok.fresh up1
  have want := qa (hq.objs.size + 1) free1
  rw [List.append_nil] at want
  have laid : ∀ b o, hq.get? b = some o → ((hq.push (PySem.W.kdv_tup ws)).push (PySem.HandSPX.excO C hq.objs.size)).get? b = some o := fun b o ee => Heap.get?_push_of_some _ (Heap.get?_push_of_some _ ee)
  have there : ((hq.push (PySem.W.kdv_tup ws)).push (PySem.HandSPX.excO C hq.objs.size)).get? (hq.objs.size + 1) = some (PySem.HandSPX.excO C hq.objs.size) := by heap_get
  have Ib : Inv X pins σ (upd Ha (hq.objs.size + 1) (exo (hq.objs.size + 1) C none)) ⟨(hq.push (PySem.W.kdv_tup ws)).push (PySem.HandSPX.excO C hq.objs.size), gn, dr, tks, oss⟩ :=
    Ia.laid (t' := tks) (a := hq.objs.size + 1) (o := exo (hq.objs.size + 1) C none) (h' := (hq.push (PySem.W.kdv_tup ws)).push (PySem.HandSPX.excO C hq.objs.size)) laid up1 (exo_ok there)
  have rb : Vals (V.ref (hq.objs.size + 1) :: xs) (Value.ref (hq.objs.size + 1) :: ws) := .cons rfl ra
  have len1 : (Value.ref (hq.objs.size + 1) :: ws ++ []).length = ps.length := by
    have q := rb.length
    rw [G1.len _ _ _ _ want] at q
    rw [List.append_nil]
    exact q.symm
  have line1 : ws.length ≤ sizeLine := by
    have q := Paired.length ra
    rw [sizeLine_eq]
    omega
  have bnd := hb _ (Value.ref (hq.objs.size + 1) :: ws) Ib.kIn len1
  rw [List.append_nil] at bnd
  refine wpAny_call (PySem.HandSPX.call_own F.excBase_ValueError (fun Y => PySem.HandSPX.refsVE_contains Y bm vE) (Ia.kIn _ _ cC) (PySem.W.looks_findIn Ia.kIn iC) (fun slf => PySem.W.bind_fn Ia.kIn slf tI) line1
    (codeAny_mono (G1.run _ X.stack _ _ ⟨Value.ref (hq.objs.size + 1) :: ws, []⟩ (Value.ref (hq.objs.size + 1) :: ws) _ _ E0 (hr.make C ws []) (Ib.env0.make C ws []) bnd rb want) fun res sb hres => ?_))
  match res, hres with
  | .error er, hres => exact hx pins σ _ _ er sb Ib hres
  | .ok .next, hres => exact hres.elim
  | .ok .brk, hres => exact hres.elim
  | .ok .cont, hres => exact hres.elim
  | .ok (.ret u), hres =>
    obtain ⟨v, Hb, osb, bareb, unb, hokb, rv, ev, d, fs, ea, ed, hd1, q2⟩ := hres
    subst ev
    obtain ⟨hb2, gb2, db2, tb2, ob2⟩ := sb
    obtain ⟨t0, G, J, kG, ge, hoe, na⟩ := mk_end0 (d2 := db2) (t2 := tb2) Ia up1 laid unb hokb osb bareb ea ed hd1
    exact ⟨rv, ⟨hq.objs.size + 1, _, _, ⟨G, gb2, db2, tb2, ob2⟩, _, .ref C, some d, rfl, J, kG, ge, hoe, ⟨rfl, rfl, fun vs hv => (by cases hv; rfl)⟩, rfl, rfl, na, rfl, bareb, raises_own T.exC T.tyC, q2⟩⟩
end
/-- a def by its body, its errors' contexts are None -/
theorem Fun.okXN {P : Program} {w : World} {K : PySem.W.Frag} {mg : Str → Option Value} {base : Heap} {x qual : Str} {st : Stmt} {f : Addr} {fd : FuncData} {N ps : List Str} {k : Nat} {sp : Sp} (G : L2.Fun K x qual st f fd) (S : FnScope N ps (defScope st)) (len : ∀ vs H Q E, sp vs H Q E → vs.length = ps.length)
    (hbody : ∀ (cdv : Value) (A : Around) (outer : List Env) (s : Shared) (H : Hp) (vs : List V) (Q : VK) (E : XK), Room k (A.deeper (envOfC qual (defScope st) s.heap.objs.size f cdv)) → sp vs H Q E →
      ∃ t, PSs (cxOf (L2N.CX P w) P w K mg base N qual (defScope st) f cdv A outer s H E) (defBody st) t ∧ t { nx := fun _ H' => Q .non H', rt := Q } (start N vs) H) : FnOk P w K mg base (L2N.CX P w) (k + 1) f fd ps sp := by
  obtain ⟨_, _, _, _, _, _, _, _, _, rfl, lk, hcd⟩ := G.ex
  exact fn_of lk hcd S len fun A outer s H vs Q E hr hsp => hbody _ A outer s H vs Q E hr hsp
end Rz
namespace Rz
open PySem PySem.Spec PyProof.Rows L2 L2H HotX
/-! ### raise C(e, ..) from n, in the suite that handles n -/
/-- the heap behind «from x1» -/
def causeAt (h : Heap) (a x1 : Addr) : Heap := (h.update a (Obj.mapFields (·.setIfInBounds 3 (.ref x1)))).update a (Obj.mapFields (·.setIfInBounds 4 (.bool true)))
theorem causeAt_at {h : Heap} {a x1 : Addr} {oe : Obj} {vs : Array Value} (ea : h.get? a = some oe) (dd : oe.data = .fields vs) :
    (causeAt h a x1).get? a = some ((oe.mapFields (·.setIfInBounds 3 (.ref x1))).mapFields (·.setIfInBounds 4 (.bool true))) ∧ ((oe.mapFields (·.setIfInBounds 3 (.ref x1))).mapFields (·.setIfInBounds 4 (.bool true))).data = .fields ((vs.setIfInBounds 3 (.ref x1)).setIfInBounds 4 (.bool true)) := by
  have d3 := Obj.data_mapFields dd (·.setIfInBounds 3 (.ref x1))
  have e3 := Heap.get?_update_self (Obj.mapFields (·.setIfInBounds 3 (.ref x1))) ea (Obj.isFreed_of_fields d3)
  have d4 := Obj.data_mapFields d3 (·.setIfInBounds 4 (.bool true))
  exact ⟨Heap.get?_update_self (Obj.mapFields (·.setIfInBounds 4 (.bool true))) e3 (Obj.isFreed_of_fields d4), d4⟩
theorem causeAt_other {h : Heap} {a b x1 : Addr} (n : a ≠ b) : (causeAt h a x1).get? b = h.get? b :=
  (Heap.get?_update_other _ _ n).trans (Heap.get?_update_other _ _ n)
theorem raise_from {prog : Program} {w : World} {A : Around} {E : Value → Shared → Prop} {env : Env} {s : Shared} {x c : Sem Value} {Q : Flow → Shared → Prop} {x1 : Addr}
    (h : wpAny (model prog w) A x (fun v s1 => ∃ a oe vs cls o1 vs1 cls1, v = .ref a ∧ s1.heap.get? a = some oe ∧ oe.cls = cls ∧ oe.data = .fields vs ∧ vs[1]? = some .none ∧ 4 < vs.size ∧ x1 ≠ a ∧ HotAt A x1 s1.heap ∧
      s1.heap.get? x1 = some o1 ∧ o1.cls = cls1 ∧ o1.data = .fields vs1 ∧ (∀ Q', Q' (.ref x1) s1 → wpAny (model prog w) A c Q' E s1) ∧
      PySem.W.Looks (model prog w) s1.heap (isSubtype cls (.type "BaseException")) true ∧ PySem.W.Looks (model prog w) s1.heap (isSubtype cls1 (.type "BaseException")) true ∧ PySem.W.Looks (model prog w) (causeAt s1.heap a x1) (typeOf cls) (.type "type") ∧
      E (.ref a) { s1 with heap := (causeAt s1.heap a x1).update a (Obj.mapFields (·.setIfInBounds 2 (.ref x1))) }) E s) :
    wpAny (model prog w) A (raiseStmt env (some x) (some c)) Q E s := by
  unfold raiseStmt
  dsimp only
  refine wpAny_bind (wpAny_mono h (fun v s1 hh => ?_) fun _ _ z => z)
  obtain ⟨a, oe, vs, cls, o1, vs1, cls1, rfl, ea, ec, dd, f1, f4, nx, hot, ex1, ec1, dd1, hc, B1, B2, TT, hE⟩ := hh
  have ty : PySem.W.Looks (model prog w) s1.heap (typeOf (.ref a)) cls := fun A Q E s k q => wpAny_typeOf_ref (k _ _ ea) (by rw [ec]; exact q)
  have ty1 : PySem.W.Looks (model prog w) s1.heap (typeOf (.ref x1)) cls1 := fun A Q E s k q => wpAny_typeOf_ref (k _ _ ex1) (by rw [ec1]; exact q)
  have isB : PySem.W.Looks (model prog w) s1.heap (isInstance (.ref a) (.type "BaseException")) true := ty.andThen B1
  have isB1 : PySem.W.Looks (model prog w) s1.heap (isInstance (.ref x1) (.type "BaseException")) true := ty1.andThen B2
  have notT : ∀ {b : Addr} {ob : Obj} {us : Array Value} {s2 : Shared} {Q' : Bool → Shared → Prop}, s2.heap.get? b = some ob → ob.data = .fields us → Q' false s2 → wpAny (model prog w) A (isType (.ref b)) Q' E s2 := by
    intro b ob us s2 Q' eb db hq
    simp only [isType, loadHead]
    refine wpAny_bind (wpAny_loadPart eb ?_)
    rw [db]
    exact wpAny_pure hq
  have d3 := Obj.data_mapFields dd (·.setIfInBounds 3 (.ref x1))
  have e3 := Heap.get?_update_self (Obj.mapFields (·.setIfInBounds 3 (.ref x1))) ea (Obj.isFreed_of_fields d3)
  obtain ⟨e4, d4⟩ := causeAt_at (x1 := x1) ea dd
  have z3 : 3 < vs.size := by omega
  have z4 : 4 < (vs.setIfInBounds 3 (Value.ref x1)).size := by rw [set_size]; exact f4
  have z2 : 2 < ((vs.setIfInBounds 3 (Value.ref x1)).setIfInBounds 4 (Value.bool true)).size := by rw [set_size, set_size]; omega
  have f14 : ((vs.setIfInBounds 3 (Value.ref x1)).setIfInBounds 4 (Value.bool true))[1]? = some Value.none := set_other (by decide) (set_other (by decide) f1)
  have c4 : ((oe.mapFields (·.setIfInBounds 3 (.ref x1))).mapFields (·.setIfInBounds 4 (.bool true))).cls = cls := (Obj.cls_mapFields ..).trans ((Obj.cls_mapFields ..).trans ec)
  have ty4 : PySem.W.Looks (model prog w) (causeAt s1.heap a x1) (typeOf (.ref a)) cls := fun A Q E s k q => wpAny_typeOf_ref (k _ _ e4) (by rw [c4]; exact q)
  have hot4 : HotAt A x1 (causeAt s1.heap a x1) := by
    obtain ⟨q1, o, us, q2, q3, q4⟩ := hot
    exact ⟨q1, o, us, by rw [causeAt_other (Ne.symm nx)]; exact q2, q3, q4⟩
  have rest : wpAny (model prog w) A (do
      let bb ← isType (.ref a)
      if bb = true then do
        let ee ← holding [.ref a] (raisedFor (.ref a) (.ref a))
        setFlight ee none
        raiseNew ee
      else do
        let ee ← raisedInstance (.ref a)
        setFlight ee none
        raiseNew ee : Sem Flow) Q E { s1 with heap := causeAt s1.heap a x1 } := by
    refine wpAny_bind (notT e4 d4 ?_)
    simp only [Bool.false_eq_true, if_false]
    unfold raisedInstance
    refine wpAny_bind (wpAny_bind (ty4.here (wpAny_bind (TT.here ?_))))
    rw [if_pos (beq_self_eq_true _)]
    refine wpAny_pure ?_
    unfold setFlight
    refine wpAny_bind (wpAny_bind (wpAny_field e4 d4 f14 ?_))
    rw [if_neg (by decide)]
    refine wpAny_pure ?_
    exact raiseNew_hot hot4 nx e4 d4 z2 hE
  refine wpAny_bind (wpAny_holding (hc _ (wpAny_bind (wpAny_pure ?_))))
  dsimp only
  refine wpAny_bind (wpAny_holding ?_)
  unfold excFromValue isExcClass
  refine wpAny_bind (wpAny_bind (notT ea dd ?_))
  simp only [Bool.false_eq_true, if_false]
  refine wpAny_pure ?_
  simp only [Bool.false_eq_true, if_false]
  refine wpAny_bind (isB.here ?_)
  simp only [if_true]
  refine wpAny_pure ?_
  rw [if_neg (show ¬ ((Value.ref x1 == Value.none) = true) from by simp)]
  refine wpAny_bind (wpAny_holding ?_)
  refine wpAny_bind (wpAny_bind (notT ex1 dd1 ?_))
  rw [if_neg Bool.false_ne_true]
  refine wpAny_pure ?_
  rw [if_neg Bool.false_ne_true]
  refine wpAny_bind (isB1.here ?_)
  rw [if_pos rfl]
  refine wpAny_pure ?_
  refine wpAny_bind (wpAny_setField ea dd z3 ?_)
  refine wpAny_bind (wpAny_setField e3 d3 z4 ?_)
  exact rest
/-- p: the exception that is handled, its class cl; the name at slot i holds it -/
theorem ps_raiseFrom {X : Cx} {W : WX} {e : Expr} {t : L2.St → Hp → XK → Prop} {i : Nat} {n : Str} {np pos : Pos} {p : Addr × Obj} {cl : Value} (hot : Hot1 X.A p) (hp : p ∈ X.pn) (hcl : p.2.cls = cl) (tk : L2.Takes X W) (he : PMk5 X e t) (hN : X.N[i]? = some n) (hv : Vis X.env.scope n)
    (hd : (n == ("__debug__" : Str)) = false := by decide) (hcd : (n == ("__classdict__" : Str)) = false := by decide) :
    PS X (.Raise (some e) (some (.Name n np)) pos) (fun _ σ H => PySem.W.subIn X.K cl (.type "BaseException") = some true ∧ σ[i]? = some (some (.ref p.1)) ∧ t σ H fun c d H' => W c d σ H') := by
  refine ⟨fun pins s σ H D I h => ?_⟩
  obtain ⟨hsub, hσ, h⟩ := h
  obtain ⟨hh, v1, e1, c1⟩ := hot
  show wpAny _ _ (do standAt pos; raiseStmt X.env (some (do let v ← eval e X.env; standAt pos; pure v)) (some (do let v ← eval (.Name n np) X.env; standAt pos; pure v))) _ _ _
  refine wpAny_bind (wpAny_standAt (raise_from (x1 := p.1) (wpAny_bind (wpAny_mono (he pins s σ H _ I h) (fun u s1 hu => wpAny_bind (wpAny_standAt (wpAny_pure ?_))) fun _ _ x => x))))
  obtain ⟨⟨a, oe, vs, sI, H', c2, d, rfl, J, kk, hne, ha, hz, dd, f1, na, os, ag, r, q⟩, h5⟩ := hu
  have f4 : 4 < vs.size := h5 a oe vs rfl ha dd
  have apart : ∀ {b : Addr} {u : Obj}, sI.heap.get? b = some u → a ≠ b := fun {b u} z y => by
    rw [← y, hne] at z
    cases z
  have k4 : ∀ b u, sI.heap.get? b = some u → (causeAt s1.heap a p.1).get? b = some u := fun b u z => (causeAt_other (apart z)).trans (kk b u z)
  have KI := J.kIn.keeps kk
  obtain ⟨r1, _⟩ := r (model X.prog X.w) s1.heap KI
  obtain ⟨_, r2⟩ := r (model X.prog X.w) (causeAt s1.heap a p.1) (J.kIn.keeps k4)
  have P1 := (J.pin p (List.mem_append_left _ hp)).1
  have nap : p.1 ≠ a := fun z => apart P1 z.symm
  have J1 : Inv X pins σ H' s1 := J.call' (ch := []) os (Un.kept kk) (J.hok.kept kk) ag fun b z => by simp at z
  obtain ⟨e4, d4⟩ := causeAt_at (x1 := p.1) ha dd
  have f12 : (((vs.setIfInBounds 3 (Value.ref p.1)).setIfInBounds 4 (Value.bool true)).setIfInBounds 2 (Value.ref p.1))[1]? = some Value.none := set_other (by decide) (set_other (by decide) (set_other (by decide) f1))
  refine ⟨a, oe, vs, c2, p.2, v1, cl, rfl, ha, hz.1, dd, f1, f4, nap, ⟨hh, p.2, v1, kk _ _ P1, e1, c1⟩, kk _ _ P1, hcl, e1, fun Q' q' => ?_, r1, PySem.W.looks_subIn KI hsub, r2, tk _ _ (XE.new J (fun b u z => ?_) hne (Heap.get?_update_self _ e4 (Obj.isFreed_of_fields (Obj.data_mapFields d4 _)))
    ⟨(Obj.cls_mapFields ..).trans ((Obj.cls_mapFields ..).trans ((Obj.cls_mapFields ..).trans hz.1)), by rw [HandSPX.dict_mapFields, HandSPX.dict_mapFields, HandSPX.dict_mapFields]; exact hz.2.1⟩ (Obj.data_mapFields d4 _) f12 na os ag q)⟩
  · refine wpAny_bind (raw_name hN hv J1 hσ (fun u ru => ?_) hd hcd)
    obtain rfl : u = Value.ref p.1 := ru
    exact wpAny_bind (wpAny_standAt (wpAny_pure q'))
  · exact (Heap.get?_update_other _ _ (apart z)).trans (k4 b u z)
/-! ### an except suite with a name that raises out of the def -/
theorem frames_but {L : Addr} {h h2 B : Heap} (hs : ∀ b, b ≠ L → h2.get? b = h.get? b) (hL : ∃ o, h2.get? L = some o ∧ ∀ vs, o.data ≠ .fields vs) : ∀ {l : List Env}, h.FunFrames B l → h2.FunFrames B l
  | [], _ => True.intro
  | env :: l, x => by
    obtain ⟨x1, ⟨L2, o, xf, xb, xo, xd⟩, x3⟩ := x
    refine ⟨x1, ⟨L2, ?_⟩, frames_but hs hL x3⟩
    by_cases e : L2 = L
    · obtain ⟨o2, y1, y2⟩ := hL
      subst e
      exact ⟨o2, xf, xb, y1, y2⟩
    · exact ⟨o, xf, xb, (hs L2 e).trans xo, xd⟩
theorem held_but {L a : Addr} {h h2 B : Heap} {l : List Env} {Z : Obj → Prop} {fl : Addr} (hs : ∀ b, b ≠ L → h2.get? b = h.get? b) (hB : B.get? L = none) (hL1 : ∃ o, h.get? L = some o ∧ ∀ vs, o.data ≠ .fields vs) (hL : ∃ o, h2.get? L = some o ∧ ∀ vs, o.data ≠ .fields vs) (x : HandSPX.HeldZ B l a Z fl h) : HandSPX.HeldZ B l a Z fl h2 := by
  obtain ⟨x1, x2, x3, oe, vs, T, oT, ts, t1, t2, t3, t4, t5, t6, t7, t8, t9⟩ := x
  have nf : ∀ {b : Addr} {o : Obj} {us : Array Value}, h.get? b = some o → o.data = .fields us → b ≠ L := fun {b o us} e d z => by
    obtain ⟨o2, y1, y2⟩ := hL1
    rw [z, y1] at e
    cases e
    exact y2 _ d
  refine ⟨fun b o e => ?_, x2, frames_but hs hL x3, oe, vs, T, oT, ts, (hs a (nf t1 t3)).trans t1, t2, t3, t4, t5, t6, (hs T (nf t7 t8)).trans t7, t8, t9⟩
  have nb : b ≠ L := fun z => by
    rw [z, hB] at e
    cases e
  exact (hs b nb).trans (x1 b o e)
theorem suite_out {X : Cx} {W : WX} {E : XK} {E₁ E2 : Value → Shared → Prop} {a1 : Addr} {pn : List (Addr × Obj)} {n : Str} {p2 : Pos} {u : Value} {s' : Shared} (hst : X.stack = X.env :: X.outer) (hf : X.env.frame = some X.env.locals) (hex : X.ex = [])
    (hx : X.xe = fun e s' => wpAny (model X.prog X.w) X.A (leaving X.env e) (fun _ s'' => L2.CX X.prog X.w X.outer X.H_0 X.s_0 E e s'') E₁ s') (hln : X.env.kindOf n = some .local) (hW : ∀ cls d σ H, W cls d σ H → E cls d H) {xe2 : Value → Shared → Prop} (x : L2.XE { suiteX X a1 pn with xe := xe2 } W u s') :
    wpAny (model X.prog X.w) (X.A.mark (some (.ref a1))) (noteFrame u X.env) (fun _ s3 => wpAny (model X.prog X.w) (X.A.mark (some (.ref a1))) (do bindName X.env n .none; unbindBehindTheSuite X.env n p2)
      (fun _ s4 => wpAny (model X.prog X.w) (X.A.mark (some (.ref a1))) (passOn "try.except-as" u X.env : Sem Flow) (fun _ _ => False) (notedBy (model X.prog X.w) (X.A.mark (some (.ref a1))) X.env (cameBackBy (model X.prog X.w) X.A X.env X.xe)) s4)
      (fun y s4 => wpAny (model X.prog X.w) (X.A.mark (some (.ref a1))) (setFlight u none) (fun _ s5 => (notedBy (model X.prog X.w) (X.A.mark (some (.ref a1))) X.env (cameBackBy (model X.prog X.w) X.A X.env X.xe)) y s5) (notedBy (model X.prog X.w) (X.A.mark (some (.ref a1))) X.env (cameBackBy (model X.prog X.w) X.A X.env X.xe)) s4) s3) E2 s' := by
  obtain ⟨a, B, sI, pins, σ, H, cls, d, rfl, I, nb, up, sky, na, os, ag, w⟩ := x
  have hfr : X.A.frames = some (X.env :: X.outer) := by
    have z : X.A.frames = some X.stack := I.ok.frames
    rw [z, hst]
  have below : ∀ b o, X.s_0.heap.get? b = some o → b ≠ X.env.locals := fun b o e z => by
    have h1 := Heap.lt_size e
    have h2 : X.s_0.heap.objs.size ≤ X.env.locals := I.ok.above
    rw [z] at h1
    exact absurd (Nat.lt_of_lt_of_le h1 h2) (Nat.lt_irrefl _)
  have nst : ∀ b o, X.s_0.heap.get? b = some o → b ∉ X.fs → b ∉ frs X.stack := fun b o e hb hm => by
    rcases List.mem_cons.mp (I.stkSub b hm) with z | z
    · exact below b o e z
    · exact hb z
  have noX : ∀ b, b ∉ X.ex := fun b hb => by rw [hex] at hb; cases hb
  have okB := I.inGround nb
  -- what is told at the end, of any heap that the last one leads to
  have fin : ∀ (h' : Heap) (tk : Nat) (gn : Array GenState), AllBare gn → (∀ b o, X.s_0.heap.get? b = some o → b ∈ frs X.outer → ∃ sl, h'.get? b = some { o with slots := sl }) → HandSPX.FlyingZ B X.outer a (Zc cls d) h' → L2.CX X.prog X.w X.outer X.H_0 X.s_0 E (.ref a) { s' with heap := h', toks := tk, gens := gn } := fun h' tk gn hgn up' fl => by
    refine ⟨a, B, H, cls, d, rfl, fl, okB, ⟨fun b o e n hb => nb b o (I.base.keep b o e n hb (noX b)) (nst b o e hb), fun b o e hb => up' b o e hb, fun b o e n => I.base.free b o e n (noX b), fun b o e hb => ?_, I.base.tups, I.base.frzs, I.base.tbls⟩, na, os.trans I.os, hgn, hW _ _ _ _ w⟩
    obtain ⟨o', e1⟩ := I.base.there b o e (noX b)
    exact ⟨o', nb b o' e1 (nst b o e hb)⟩
  have slot0 : ∀ b o, X.s_0.heap.get? b = some o → b ∈ frs X.outer → (∀ vs, o.data ≠ .fields vs) ∧ ∃ sl, s'.heap.get? b = some { o with slots := sl } := fun b o e hb => by
    obtain ⟨_, o2, e2, hnf⟩ := I.ok.funs.mem hb
    rw [e] at e2
    cases e2
    obtain ⟨sl, e1⟩ := I.base.slot b o e (I.ok.frf b hb) hb (noX b)
    obtain ⟨sl2, e3⟩ := up b _ e1 hnf
    exact ⟨hnf, sl2, e3⟩
  have sky : Sky B (X.env :: X.outer) a (Zc cls d) X.env.locals s'.heap := by rw [← hst]; exact sky
  have fr2 : (X.A.mark (some (.ref a1))).frames = some (X.env :: X.outer) := hfr
  -- behind the note
  have step : ∀ h1, HandSPX.HeldZ B (X.env :: X.outer) a (Zc cls d) X.env.locals h1 → s'.heap.UpToSlots h1 → wpAny (model X.prog X.w) (X.A.mark (some (.ref a1))) (do bindName X.env n .none; unbindBehindTheSuite X.env n p2)
      (fun _ s4 => wpAny (model X.prog X.w) (X.A.mark (some (.ref a1))) (passOn "try.except-as" (.ref a) X.env : Sem Flow) (fun _ _ => False) (notedBy (model X.prog X.w) (X.A.mark (some (.ref a1))) X.env (cameBackBy (model X.prog X.w) X.A X.env X.xe)) s4)
      (fun y s4 => wpAny (model X.prog X.w) (X.A.mark (some (.ref a1))) (setFlight (.ref a) none) (fun _ s5 => (notedBy (model X.prog X.w) (X.A.mark (some (.ref a1))) X.env (cameBackBy (model X.prog X.w) X.A X.env X.xe)) y s5) (notedBy (model X.prog X.w) (X.A.mark (some (.ref a1))) X.env (cameBackBy (model X.prog X.w) X.A X.env X.xe)) s4) { s' with heap := h1 } := fun h1 held up1 => by
    have J1 := I.landed (s' := { s' with heap := h1 }) nb held.1 (up.trans up1) os ag
    obtain ⟨m, hn, _⟩ := J1.loc
    obtain ⟨oL, es, ep, hoL, hdL, _⟩ := id hn
    have hcls : (X.env.scope.kind == .class || (X.env.scope.kind == .module && X.env.locals != X.env.globals)) = false := by
      have z : X.env.scope.kind = .function := I.ok.kind
      rw [z]
      rfl
    refine wpAny_nameGoes_keeps hln hn hcls fun h2 v hn2 sb => ?_
    obtain ⟨oL2, es2, ep2, hoL2, hdL2, _⟩ := id hn2
    have hBL : B.get? X.env.locals = none := (held.2.2.1.mem (List.mem_filterMap.mpr ⟨X.env, List.mem_cons_self, hf⟩)).1
    have held2 := held_but sb.2 hBL ⟨oL, hoL, fun vs z => by rw [hdL] at z; cases z⟩ ⟨oL2, hoL2, fun vs z => by rw [hdL2] at z; cases z⟩ held
    obtain ⟨k1, k2, k3, tr⟩ := id held2
    obtain ⟨oe, vs, T, oT, ts, he, hz, hd, f1, _⟩ := id tr
    unfold PySem.passOn
    refine wpAny_bind (wpAny_field he hd f1 ?_)
    rw [if_neg (show ¬ ((Value.ref T == Value.none) = true) from by simp)]
    have last : wpAny (model X.prog X.w) (X.A.mark (some (.ref a1))) (setFlight (.ref a) X.env.frame) (fun _ s5 => wpAny (model X.prog X.w) (X.A.mark (some (.ref a1))) (throw (.ref a) : Sem Flow) (fun _ _ => False) (notedBy (model X.prog X.w) (X.A.mark (some (.ref a1))) X.env (cameBackBy (model X.prog X.w) X.A X.env X.xe)) s5) (notedBy (model X.prog X.w) (X.A.mark (some (.ref a1))) X.env (cameBackBy (model X.prog X.w) X.A X.env X.xe)) { s' with heap := h2, toks := s'.toks + 1 } := by
      rw [hf]
      refine HandSPX.setFlight_anyZ k1 k3 tr fun h3 q1 q2 q3 up3 => wpAny_throw (passesAt_of hx (some (.ref a1)) _ _ ?_)
      rw [hx]
      refine HandSPX.leaves_heldZ hf ⟨q1, k2, q2, q3⟩ fun h4 fl4 up4 => ?_
      refine fin h4 (s'.toks + 1) s'.gens ag (fun b o e hb => ?_) fl4
      obtain ⟨hnf, sl0, e0⟩ := slot0 b o e hb
      obtain ⟨sl1, e1⟩ := up1 b _ e0 hnf
      obtain ⟨sl3, e3⟩ := up3 b _ ((sb.2 b (below b o e)).trans e1) hnf
      obtain ⟨sl4, e4⟩ := up4 b _ e3 hnf
      exact ⟨sl4, e4⟩
    first
      | exact wpAny_bind (wpAny_pure (wpAny_bind last))
      | exact wpAny_bind last
  rcases sky with ⟨hB, hn, hl, oe, vs, he, hz, hd, h1⟩ | fl | hh
  · exact HandSPX.look_newZ Zc.steady fr2 hl hf he hB hn hd h1 hz step
  · exact HandSPX.looks_onZ Zc.steady fr2 hf fl step
  · exact HandSPX.againZ hf hh.2.2.2 (step s'.heap hh (Heap.UpToSlots.refl _))
theorem flying_keep {a : Addr} {h h2 B : Heap} {l : List Env} {Z : Obj → Prop} (k : ∀ b o, h.get? b = some o → h2.get? b = some o) (x : HandSPX.FlyingZ B l a Z h) : HandSPX.FlyingZ B l a Z h2 := by
  obtain ⟨x1, x2, x3, oe, vs, T, oT, ts, t1, t2, t3, t4, t5, t6, t7, t8⟩ := x
  exact ⟨fun b o e => k b o (x1 b o e), x2, x3.of_keeps fun b o e _ => ⟨o, k b o e, rfl⟩, oe, vs, T, oT, ts, k _ _ t1, t2, t3, t4, t5, t6, k _ _ t7, t8⟩
/-- an end that is never reached -/
def endsNo : Ends := { nx := fun _ _ => False, rt := fun _ _ => False }
def wTwo (K : PySem.W.Frag) (ca cb : Value) (i : Nat) (ts : Addr → Value → Option Addr → TS) : WX := fun cls d σ H => PySem.W.exmAny K cls [ca, cb] = some true ∧ ∀ a, H a = none → ts a cls d endsNo (σ.set i (some (.ref a))) H
/-- the context of such a suite -/
abbrev suiteY (X : Cx) (a : Addr) (pn : List (Addr × Obj)) (xe2 : Value → Shared → Prop) : Cx := { suiteX X a pn with xe := xe2 }
/-- try: .. except (A, B) as n: a suite that raises, out of the def -/
theorem ps_try_two {X : Cx} {xa xb n : Str} {ca cb : Value} {i kk : Nat} {body suite : List Stmt} {b0 : Stmt} {tp pa pb p2 pos : Pos} {E : XK} {E₁ : Value → Shared → Prop} {tb : WX → TS} {ts : Addr → Value → Option Addr → TS}
    (hst : X.stack = X.env :: X.outer) (hf : X.env.frame = some X.env.locals) (hex : X.ex = []) (hx : X.xe = fun e s' => wpAny (model X.prog X.w) X.A (leaving X.env e) (fun _ s'' => L2.CX X.prog X.w X.outer X.H_0 X.s_0 E e s'') E₁ s')
    (hN : X.N.Nodup) (hi : X.N[i]? = some n) (hln : X.env.kindOf n = some .local) (ha : Names X xa ca) (hb : Names X xb cb)
    (hbody : ∀ (W : WX) (pn : List (Addr × Obj)) (xe : Value → Shared → Prop), L2N.Takes (X.tr pn xe) W → PSs (X.tr pn xe) body (tb W))
    (hsu : ∀ (a : Addr) (oe : Obj) (cls : Value) (d : Option Addr) (pn : List (Addr × Obj)) (xe2 : Value → Shared → Prop), Hot1 (suiteY X a ((a, oe) :: pn) xe2).A (a, oe) → oe.cls = cls → L2.Takes (suiteY X a ((a, oe) :: pn) xe2) (fun cls d _ H => E cls d H) → PSs (suiteY X a ((a, oe) :: pn) xe2) (b0 :: suite) (ts a cls d)) :
    PS X (.Try body [.ExceptHandler (some (.Tuple [.Name xa pa, .Name xb pb] kk tp)) (some n) (b0 :: suite) p2] [] [] pos) (fun D σ H => tb (wTwo X.K ca cb i ts) D σ H) := by
  refine ⟨fun pins s σ H D I h => ?_⟩
  have ok := I.ok
  have fr0 : X.A.frames = some (X.env :: X.outer) := ok.frames.trans (by rw [hst])
  refine wpAny_Try_except ?_
  refine wpAny_mono ((hbody (wTwo X.K ca cb i ts) (X.pn ++ pins) (fun e sa => wpAny (model X.prog X.w) X.A (noteFrame e X.env) (fun _ sb => wpAny (model X.prog X.w) X.A (setFlight e none) (fun _ sc =>
    wpAny (model X.prog X.w) X.A (handleBy e X.env [.ExceptHandler (some (.Tuple [.Name xa pa, .Name xb pb] kk tp)) (some n) (b0 :: suite) p2]) (SP X pins D) X.xe sc) X.xe sb) X.xe sa) (fun u s2 air => ?_)).run [] s σ H D (I.toTry _) h) (fun f s1 hsp => ?_) (fun e s1 he => he)
  · obtain ⟨a, B, sI, pins2, σ2, H2, cls, d, rfl, J0, nb, up, sky, na, os, ag, w, hyes⟩ := air
    have J := J0.ofTry ok
    rw [hst] at sky
    show wpAny (model X.prog X.w) X.A (noteFrame (.ref a) X.env) _ _ _
    refine L2N.Sky.land L2N.Zn.steady fr0 hf sky fun g3 fl3 up3 => ?_
    have J3 : Inv X pins σ2 H2 { s2 with heap := g3 } := J.landed nb fl3.1 (up.trans up3) os ag
    obtain ⟨o3, vs3, e3, z3, d3⟩ := fl3.there
    have nfr : a ∉ frs (X.env :: X.outer) := fun hm => by
      obtain ⟨_, o', e', hnf⟩ := fl3.2.2.1.mem hm
      rw [e3] at e'
      cases e'
      exact hnf _ d3
    have nL : a ≠ X.env.locals := fun z => nfr (List.mem_filterMap.mpr ⟨X.env, List.mem_cons_self, by rw [hf, z]⟩)
    have nF : a ∉ X.fs := fun hm => by
      obtain ⟨e, he, q⟩ := List.mem_filterMap.mp hm
      exact nfr (List.mem_filterMap.mpr ⟨e, List.mem_cons_of_mem _ he, q⟩)
    have S3 := J3.suite e3 d3 na nL nF
    have look : ∀ {x : Str} {np : Pos} {c : Value} {Q : Value → Shared → Prop} {E : Value → Shared → Prop}, Names X x c → Q c { s2 with heap := g3 } → wpAny (model X.prog X.w) (X.A.mark (some (.ref a))) (eval (.Name x np) X.env) Q E { s2 with heap := g3 } := fun {x np c Q E} hc q => by
      obtain ⟨hg, hdbg, hm | ⟨hm, hv, hnn⟩⟩ := hc
      · exact ld_glob (X := X.suite a ((a, o3) :: (X.pn ++ pins))) S3 hg hm q hdbg
      · exact ld_blt (X := X.suite a ((a, o3) :: (X.pn ++ pins))) S3 hg hm hv q hnn hdbg
    refine wpAny_handleBy_cons (codeAny_handlers_test ?_) (by intro q; cases q)
    refine wpAny_Tuple_spliced (Calls.spliced_cons (look ha (Calls.spliced_cons (look hb (Calls.spliced_nil ?_)))))
    refine ⟨by show 2 ≤ sizeLine; decide, ?_⟩
    have kp : ∀ b o, g3.get? b = some o → (g3.push { cls := .type "tuple", data := .seq ([ca, cb] : List Value).toArray }).get? b = some o := fun b o e => Heap.get?_push_of_some _ e
    have LT : PySem.W.Looks (model X.prog X.w) (g3.push { cls := .type "tuple", data := .seq ([ca, cb] : List Value).toArray }) (typeOf (.ref a)) cls := fun A Q E s k q => wpAny_typeOf_ref (k _ _ (kp _ _ e3)) (by rw [z3.1]; exact q)
    refine (PySem.W.exm_tup2 (M := model X.prog X.w) (J3.kIn.keeps kp) LT (Heap.get?_push_size _ rfl) w).here ?_
    have flp := flying_keep kp fl3
    refine codeAny_handlers_suite_as ?_
    refine HandSPX.lands_againZ flp fun g4 fl4 up4 => ?_
    have J4 : Inv X pins σ2 H2 { s2 with heap := g4 } := J.landed nb fl4.1 (((up.trans up3).trans (Heap.UpToSlots.of_keeps kp)).trans up4) os ag
    obtain ⟨o4, vs4, e4, z4, d4⟩ := fl4.there
    refine store_ok (X := X.suite a ((a, o4) :: (X.pn ++ pins))) (v := .ref a) (J4.suite e4 d4 na nL nF) hN hi (.inl hln) rfl (fun s5 S5 => ?_) (.inr hln)
    have hot : Hot1 (X.A.mark (some (.ref a))) (a, o4) := ⟨rfl, vs4, d4, z4.2.2 vs4 d4⟩
    refine wpAny_mono ((hsu a o4 cls d (X.pn ++ pins) _ hot z4.1 (fun u s6 x6 => suite_out (a1 := a) (pn := (a, o4) :: (X.pn ++ pins)) (n := n) (p2 := p2) hst hf hex hx hln (fun _ _ _ _ h => h) x6)).run [] s5 _ H2 endsNo (Inv.unwish (X := suiteY X a ((a, o4) :: (X.pn ++ pins)) _) (E := fun _ _ => False) S5) (hyes a na)) (fun f s6 hsp => ?_) (fun _ _ z => z)
    cases f with
    | next => obtain ⟨_, _, _, q6⟩ := hsp; exact q6.elim
    | brk => obtain ⟨_, _, _, q6⟩ := hsp; exact q6.elim
    | cont => obtain ⟨_, _, _, q6⟩ := hsp; exact q6.elim
    | ret u => obtain ⟨_, _, _, _, _, q6⟩ := hsp; exact q6.elim
  · cases f with
    | next => obtain ⟨_, _, S6, q6⟩ := hsp; exact wpAny_execs_nil ⟨_, _, S6.ofTry ok, q6⟩
    | brk => obtain ⟨_, _, S6, q6⟩ := hsp; exact ⟨_, _, S6.ofTry ok, q6⟩
    | cont => obtain ⟨_, _, S6, q6⟩ := hsp; exact ⟨_, _, S6.ofTry ok, q6⟩
    | ret u => obtain ⟨_, _, _, S6, r6, q6⟩ := hsp; exact ⟨_, _, _, S6.ofTry ok, r6, q6⟩
end Rz

namespace Rz
open PySem PySem.Spec PyProof.Rows L2
/-! ### name = [e for ..]: an element that may raise, out of the comprehension -/
theorem sky_flies {B B2 : Heap} {l l2 : List Env} {a L : Addr} {Z Z2 : Obj → Prop} {h : Heap} (x : Sky B l a Z L h) (f : HandSPX.FlyingZ B2 l2 a Z2 h) : HandSPX.FlyingZ B l a Z h := by
  obtain ⟨_, _, _, o1, us1, T1, oT1, ts1, e1, z1, d1, m1, n1, t1, g1, dt1, c1⟩ := f
  rcases x with ⟨_, _, _, o2, us2, e2, _, d2, m2⟩ | y | ⟨_, _, _, o2, us2, T2, oT2, ts2, e2, _, d2, m2, _, _, g2, dt2, c2⟩
  · rw [e1] at e2
    cases e2
    rw [d1] at d2
    cases d2
    rw [m1] at m2
    cases m2
  · exact y
  · rw [e1] at e2
    cases e2
    rw [d1] at d2
    cases d2
    rw [m1] at m2
    cases m2
    rw [g1] at g2
    cases g2
    rw [dt1] at dt2
    cases dt2
    rw [c1] at c2
    cases c2
theorem frames_less {h B B2 : Heap} (k : ∀ b, B.get? b = none → B2.get? b = none) : ∀ {l : List Env}, h.FunFrames B l → h.FunFrames B2 l
  | [], _ => True.intro
  | _ :: _, ⟨y1, ⟨M, o, y2, y3, y4⟩, y5⟩ => ⟨y1, ⟨M, o, y2, k M y3, y4⟩, frames_less k y5⟩
theorem held_less {h B : Heap} {l : List Env} {a C M : Addr} {Z : Obj → Prop} (x : HandSPX.HeldZ B l a Z M h) : HandSPX.HeldZ (PySem.W.hideAll B [C]) l a Z M h := by
  have k : ∀ b, B.get? b = none → (PySem.W.hideAll B [C]).get? b = none := fun b e => by
    cases q : (PySem.W.hideAll B [C]).get? b with
    | none => rfl
    | some o =>
      have z := PySem.W.of_hideAll _ q
      rw [e] at z
      cases z
  obtain ⟨y1, y2, y3, oe, us, T, oT, ts, t1, t2, t3, t4, t5, y4⟩ := x
  exact ⟨fun b o e => y1 b o (PySem.W.of_hideAll _ e), k _ y2, frames_less k y3, oe, us, T, oT, ts, t1, t2, t3, t4, k _ t5, y4⟩
theorem frames_but2 {L : Addr} {h h2 B : Heap} (hs : ∀ b, b ≠ L → h2.get? b = h.get? b) : ∀ {l : List Env}, L ∉ frs l → h.FunFrames B l → h2.FunFrames B l
  | [], _, _ => True.intro
  | env :: l, nl, ⟨y1, ⟨M, o, y2, y3, y4, y5⟩, y6⟩ =>
    ⟨y1, ⟨M, o, y2, y3, (hs M fun z => nl (List.mem_filterMap.mpr ⟨env, List.mem_cons_self, by rw [y2, z]⟩)).trans y4, y5⟩, frames_but2 hs (fun z => nl (by
      obtain ⟨e, q1, q2⟩ := List.mem_filterMap.mp z
      exact List.mem_filterMap.mpr ⟨e, List.mem_cons_of_mem _ q1, q2⟩)) y6⟩
theorem held_other {L a M : Addr} {h h2 B : Heap} {l : List Env} {Z : Obj → Prop} (hs : ∀ b, b ≠ L → h2.get? b = h.get? b) (hB : B.get? L = none) (hL1 : ∃ o, h.get? L = some o ∧ ∀ vs, o.data ≠ .fields vs) (hl : L ∉ frs l)
    (x : HandSPX.HeldZ B l a Z M h) : HandSPX.HeldZ B l a Z M h2 := by
  obtain ⟨x1, x2, x3, oe, vs, T, oT, ts, t1, t2, t3, t4, t5, t6, t7, t8, t9⟩ := x
  have nf : ∀ {b : Addr} {o : Obj} {us : Array Value}, h.get? b = some o → o.data = .fields us → b ≠ L := fun {b o us} e d z => by
    obtain ⟨o2, y1, y2⟩ := hL1
    rw [z, y1] at e
    cases e
    exact y2 _ d
  refine ⟨fun b o e => ?_, x2, frames_but2 hs hl x3, oe, vs, T, oT, ts, (hs a (nf t1 t3)).trans t1, t2, t3, t4, t5, t6, (hs T (nf t7 t8)).trans t7, t8, t9⟩
  have nb : b ≠ L := fun z => by
    rw [z, hB] at e
    cases e
  exact (hs b nb).trans (x1 b o e)
/-- what is told behind the block -/
def postB (M : Model) (A : Around) (E : Value → Shared → Prop) (env : Env) (scope : Scope) (u : Value → Sem Unit) (Q : Value → Shared → Prop) (acc : Value) (ce : Env) : Result → Shared → Prop
  | .ok _, s1 => wpAny M A (u acc) (fun _ s2 => ∃ m, s2.heap.Ns ce.locals m ∧ ∀ g, Heap.SameBut ce.locals s2.heap g → Q .none { s2 with heap := g }) E s1
  | .error x, s1 => ∃ m, s1.heap.Ns ce.locals m ∧ ∀ g, Heap.SameBut ce.locals s1.heap g → wpAny M A (passOn "comprehension.variables-let-go" x { ce with scope := relabel scope env } : Sem Value) (fun _ _ => False) E { s1 with heap := g }
theorem comp_x {M : Model} {A : Around} {E : Value → Shared → Prop} {env : Env} {s : Shared} {e : Expr} {scope : Scope} {pos : Pos} {newAcc first : Sem Value} {c0 : Comprehension} {cs : List Comprehension} {cl : List (Str × Addr)} {u : Value → Sem Unit} {Q : Value → Shared → Prop}
    (h1 : clausesOf e = c0 :: cs) (h2 : ∀ x, foldedSetIterable c0.iter env x = pure x) (h3 : closureFor scope env = pure cl) (h4 : scope.kind = .function) (h5 : ∀ x ∈ scope.names, x.2 = .local → scope.names.lookup x.1 = some .local)
    (h : wpAny M A first (fun v sa => wpAny M A (pyIter v) (fun it sb => wpAny M A newAcc (fun acc sc => wpAny M A (newFunctionEnv scope env.globals cl [] env.qual none .none (some env)) (fun ce sd =>
      codeAny M A (.compStart e 0 it acc { ce with scope := relabel scope env }) (postB M A E env scope u Q acc ce) sd) E sc) E sb) E sa) E s) :
    wpAny M A (comprehension e scope env pos newAcc false first (some u)) Q E s := by
  unfold comprehension
  rw [h3, h1]
  refine wpAny_bind (wpAny_mono h (fun v sa ha => wpAny_bind (wpAny_standAt (wpAny_bind (wpAny_of_eq (h2 v) (wpAny_bind (wpAny_holding (wpAny_mono ha (fun it sb hb => wpAny_standIf
    (wpAny_bind (wpAny_mono hb (fun acc sc hc => wpAny_bind (wpAny_pure (wpAny_bind (wpAny_mono hc (fun ce sd hd => ?_) fun _ _ z => z)))) fun _ _ z => z))) fun _ _ z => z))))))) fun _ _ z => z)
  dsimp only
  have loc1 : ∀ y ∈ (scope.names.filter fun y => (y.2 == .local || y.2 == .cell) && y.1 != (".0" : Str)).reverse, y.2 = .local → Env.kindOf { ce with scope := relabel scope env } y.1 = some .local := fun y hy hl =>
    lookup_relabel_local (h5 y (List.mem_filter.mp (List.mem_reverse.mp hy)).1 hl)
  have loc2 : ∀ y ∈ (scope.names.filter fun y => (y.2 == .local || y.2 == .cell) && y.1 != (".0" : Str)).reverse.drop 1 ++ (scope.names.filter fun y => (y.2 == .local || y.2 == .cell) && y.1 != (".0" : Str)).reverse.take 1,
      y.2 = .local → Env.kindOf { ce with scope := relabel scope env } y.1 = some .local := fun y hy hl => by
    rcases List.mem_append.mp hy with q | q
    · exact loc1 y (List.mem_of_mem_drop q) hl
    · exact loc1 y (List.mem_of_mem_take q) hl
  refine wpAny_holding (wpAny_bind (wpAny_attempt (wpAny_holding (wpAny_run (codeAny_mono hd fun r se hr => ?_)))))
  cases r with
  | ok f =>
    refine wpAny_bind (wpAny_rule (wpAny_bind (wpAny_holding (wpAny_mono hr (fun _ sf hf => ?_) fun _ _ z => z))))
    obtain ⟨m, n1, n2⟩ := hf
    exact wpAny_bind (wpAny_comp_letGo (cenv := { ce with scope := relabel scope env }) h4 _ sf m loc2 n1 fun g m2 _ same => wpAny_pure (n2 g same))
  | error x =>
    obtain ⟨m, n1, n2⟩ := hr
    exact wpAny_bind (wpAny_holding (wpAny_comp_letGo (cenv := { ce with scope := relabel scope env }) h4 _ se m loc1 n1 fun g m2 _ same => wpAny_mono (n2 g same) (fun _ _ z => z.elim) fun _ _ z => z))
/-- the block's context, its errors told by xe2 -/
abbrev blkE (X : Cx) (s : Shared) (H : Hp) (scope : Scope) (ce : Env) (fp : List Addr) (xe2 : Value → Shared → Prop) : Cx := { X.blk s H scope ce fp with xe := xe2 }
/-- an error of the element leaves the block -/
theorem blk_leaves {X : Cx} {pins : List (Addr × Obj)} {σ : L2.St} {H3 : Hp} {s3 : Shared} {scope : Scope} {cl : List (Str × Addr)} {fp : List Addr} {E : XK} {W : WX} {xe2 : Value → Shared → Prop} {u : Value → Sem Unit} {Q : Value → Shared → Prop} {acc : Value} {ce : Env}
    (hst : X.stack = X.env :: X.outer) (hf : X.env.frame = some X.env.locals) (tk : Takes X W) (hW : ∀ c d σ H, E c d H → W c d σ H) (I3 : Inv X pins σ H3 s3) (hfp : ∀ b ∈ fp, FpOk X pins H3 b)
    (hce1 : ce.locals = s3.heap.objs.size) (hce2 : ce.frame = X.env.frame) (hce3 : ce = compEnvC scope cl s3.heap.objs.size X.env) {ce0 : Env} (hce4 : ce0.locals = s3.heap.objs.size) (hce5 : ce0.frame = X.env.frame) (σ2 : L2.St) :
    ∀ (pins2 : List (Addr × Obj)) (H2 : Hp) (s2 : Shared) (e : Value) (s' : Shared), Inv (blkE X s3 H3 scope ce fp xe2) pins2 σ2 H2 s2 → L2.CX X.prog X.w X.stack H2 s2 E e s' →
      notedBy (model X.prog X.w) X.A ce (fun e s1 => postB (model X.prog X.w) X.A X.xe X.env scope u Q acc ce0 (.error e) s1) e s' := by
  intro pins2 H2 s2 e s' I2 c
  have fl0 := c
  obtain ⟨a0, B0, _, _, _, e0, fl0, _⟩ := fl0
  obtain ⟨a, B, sI, pinsJ, σJ, HJ, cls, d, rfl, J, nb, up, sky, na, os, ag, w⟩ := XE.of_call (X := blkE X s3 H3 scope ce fp xe2) (W := fun c d _ H => E c d H) I2 (fun _ _ _ z => z) c
  obtain rfl : a = a0 := by cases e0; rfl
  have sky : Sky B X.stack a (Zc cls d) ce.locals s'.heap := sky
  have fl := sky_flies sky fl0
  have fr0 : X.A.frames = some (X.env :: X.outer) := I3.ok.frames.trans (by rw [hst])
  have e1 : noteFrame (.ref a) ce = noteFrame (.ref a) X.env := by
    unfold noteFrame PySem.frameOf
    rw [hce2]
  unfold notedBy
  rw [e1]
  rw [hst] at fl
  have free : HJ s3.heap.objs.size = none := by
    have z : HJ ce.locals = none := J.free
    rw [hce1] at z
    exact z
  have fpk := I3.fpOk (Nat.le_refl _) free
  have nfs : s3.heap.objs.size ∉ frs X.stack := fun z => by
    rcases List.mem_cons.mp (I3.stkSub _ z) with q | q
    · exact fpk.2.1 q
    · exact fpk.2.2.1 q
  refine HandSPX.looks_onZ Zc.steady fr0 hf fl fun h1 held up1 => ?_
  obtain ⟨m, hn, _⟩ := J.loc
  have hn : sI.heap.Ns ce.locals m := hn
  rw [hce1] at hn
  obtain ⟨oL, es, ep, o1, o2, o3⟩ := hn
  have inB : B.get? s3.heap.objs.size = some oL := nb _ _ o1 nfs
  have hn1 : h1.Ns s3.heap.objs.size m := ⟨oL, es, ep, held.1 _ _ inB, o2, o3⟩
  refine ⟨m, by rw [hce4]; exact hn1, fun g same => ?_⟩
  rw [hce4] at same
  have I7 : Inv X pins σ HJ sI := I3.call' (ch := fp) J.os J.base J.hok J.bare fun b hb => ⟨(hfp b hb).2.2.2.1, (hfp b hb).2.1, (hfp b hb).2.2.2.2.1, (hfp b hb).2.2.2.2.2⟩
  obtain ⟨_, f1, _, f3, f4, f5⟩ := fpk
  have I8 := I7.turned (t' := sI.toks) (h' := PySem.W.hideAll sI.heap [s3.heap.objs.size]) (fun b o hb q => PySem.W.hideAll_get _ q (by simpa using hb)) free f1 f3 f4 f5
  have hidC : ∀ G : Heap, (PySem.W.hideAll G [s3.heap.objs.size]).get? s3.heap.objs.size = none := fun G => PySem.W.hideAll_none _ (by simp)
  have hld := held_other (l := X.env :: X.outer) same.2 (hidC B) ⟨oL, held.1 _ _ inB, fun vs z => by rw [o2] at z; cases z⟩ (by rw [← hst]; exact nfs) (held_less (C := s3.heap.objs.size) held)
  obtain ⟨k1, k2, k3, tr⟩ := id hld
  obtain ⟨oe, vs, T, oT, ts, he, hz, hd, m1, _⟩ := id tr
  unfold PySem.passOn
  refine wpAny_bind (wpAny_field he hd m1 ?_)
  rw [if_neg (show ¬ ((Value.ref T == Value.none) = true) from by simp)]
  have last : wpAny (model X.prog X.w) X.A (setFlight (.ref a) ({ ce0 with scope := relabel scope X.env } : Env).frame) (fun _ s5 => wpAny (model X.prog X.w) X.A (throw (.ref a) : Sem Value) (fun _ _ => False) X.xe s5) X.xe { s' with heap := g } := by
    rw [show ({ ce0 with scope := relabel scope X.env } : Env).frame = some X.env.locals from hce5.trans hf]
    refine HandSPX.setFlight_anyZ k1 k3 tr fun h3 q1 q2 q3 up3 => wpAny_throw (tk _ _ ?_)
    refine ⟨a, _, _, pins, σ, HJ, cls, d, rfl, I8, fun b o q hb => ?_, fun b o q hnf => ?_, .inr (.inr ⟨q1, k2, by rw [hst]; exact q2, q3⟩), na, os, ag, hW _ _ _ _ w⟩
    · have nc : b ≠ s3.heap.objs.size := fun z => by rw [z] at q; rw [show (PySem.W.hideAll sI.heap [s3.heap.objs.size]).get? s3.heap.objs.size = none from hidC _] at q; cases q
      exact PySem.W.hideAll_get _ (nb b o (PySem.W.of_hideAll _ q) hb) (by simpa using nc)
    · have nc : b ≠ s3.heap.objs.size := fun z => by rw [z] at q; rw [show (PySem.W.hideAll sI.heap [s3.heap.objs.size]).get? s3.heap.objs.size = none from hidC _] at q; cases q
      obtain ⟨l1, r1⟩ := up b o (PySem.W.of_hideAll _ q) hnf
      obtain ⟨l2, r2⟩ := up1 b _ r1 hnf
      obtain ⟨l3, r3⟩ := up3 b _ ((same.2 b nc).trans r2) hnf
      exact ⟨l3, r3⟩
  first
    | exact wpAny_bind (wpAny_pure (wpAny_bind last))
    | exact wpAny_bind last
/-- [e for t in it], the errors of e leave -/
theorem lcx_core {X : Cx} {pins : List (Addr × Obj)} {s : Shared} {σ : L2.St} {H : Hp} {Q : VK} {e tg it : Expr} {scope : Scope} {own : List (Str × Nat)} {po po2 : Pos} {wi : TI} {g : TG} {te : TE} {u : Value → Sem Unit} {Qf : Value → Shared → Prop} {E : XK} {W : WX}
    (hst : X.stack = X.env :: X.outer) (hf : X.env.frame = some X.env.locals) (tk : Takes X W) (hW : ∀ c d σ H, E c d H → W c d σ H) (calm : X.calm = true) (nd : X.N.Nodup) (I : Inv X pins σ H s) (hi : PI X tg it wi) (bk : BlkOk X.N X.env.scope scope own)
    (hg : ∀ (s : Shared) (H : Hp) (C : Addr) (cl : List (Str × Addr)) (fp : List Addr), PG (X.blk s H scope (compEnvC scope cl C X.env) fp) tg g)
    (he : ∀ (s : Shared) (H : Hp) (C : Addr) (cl : List (Str × Addr)) (fp : List Addr) (xe2 : Value → Shared → Prop), (∀ σ, PassesAt (L2.CX X.prog X.w) (blkE X s H scope (compEnvC scope cl C X.env) fp xe2) σ E) → PE (blkE X s H scope (compEnvC scope cl C X.env) fp xe2) e te) (hs : ∀ x, foldedSetIterable it X.env x = pure x)
    (h : tLc wi g tYes te (own.map (·.2)) σ H Q)
    (behind : ∀ D C sZ m HZ, Inv X pins σ HZ sZ → Q (.ref D) HZ → sZ.heap.Ns C m → FpOk X pins HZ C → wpAny (model X.prog X.w) X.A (u (.ref D)) (fun _ s2 => ∃ m, s2.heap.Ns C m ∧ ∀ g, Heap.SameBut C s2.heap g → Qf .none { s2 with heap := g }) X.xe sZ) :
    wpAny (model X.prog X.w) X.A (comprehension (.ListComp e [⟨tg, it, [], 0⟩] scope po) scope X.env po2 (newList []) false (eval it X.env) (some u)) Qf X.xe s := by
  have clo : ∀ y ∈ scope.names, y.2 = .free → ∃ c, X.env.cells.lookup y.1 = some c := fun y hy q => by
    rcases bk.free y hy q with z | z
    · exact I.ok.has _ (.inl z)
    · exact I.ok.has _ (.inr z)
  refine comp_x (u := u) rfl hs (closure_ok clo) bk.kind (fun y hy q => by rw [bk.uniq y hy, q]) (wpAny_mono (hi.run pins s σ H _ I h) (fun v sa ha => wpAny_mono ha (fun w sb hb => ?_) fun _ _ z => z) fun _ _ z => z)
  obtain ⟨ia, fp, tn, J, Hb, rfl, Ib, T, stb, fb, q⟩ := hb
  refine wpAny_newObj_type (newEnv_comp ?_) (by show 0 ≤ sizeLine; decide)
  generalize hD : sb.heap.objs.size = D
  have noD : Hb D = none := Ib.hok.fresh (Nat.le_of_eq hD)
  obtain ⟨Wt, ⟨k0, w0⟩, turn⟩ := q D noD
  generalize hsc : ({ sb with heap := sb.heap.push { cls := .type "list", data := .seq ([] : List Value).toArray } } : Shared) = sc
  have Ic : Inv X pins σ (upd Hb D (.lst [])) sc := by
    rw [← hsc]
    refine Ib.laid (t' := sb.toks) (fun c o z => Heap.get?_push_of_some _ z) (Nat.le_of_eq hD) ⟨Nat.zero_le _, [], 0, .nil, ?_⟩
    rw [← hD]
    exact Heap.get?_push_size _ rfl
  have hc : sc.heap = sb.heap.push { cls := .type "list", data := .seq ([] : List Value).toArray } := by rw [← hsc]
  have fc : ∀ c ∈ fp, FpOk X pins (upd Hb D (.lst [])) c ∧ c < sc.heap.objs.size := fun c hc1 => by
    obtain ⟨o, z, _⟩ := T.obj _ _ stb c hc1
    have lt := Heap.lt_size z
    refine ⟨⟨?_, (fb c hc1).2⟩, by rw [hc, Heap.size_push]; exact Nat.lt_succ_of_lt lt⟩
    rw [upd_ne (by rw [← hD]; exact Nat.ne_of_lt lt)]
    exact (fb c hc1).1
  have stc : tn 0 sc.heap := T.keep _ _ _ stb fun c _ o z => by rw [hc]; exact Heap.get?_push_of_some _ z
  have Id := block_start Ic bk nd fc
  have leaves := fun xe2 ce h1 h2 h3 ce0 h4 h5 => blk_leaves (X := X) (pins := pins) (σ := σ) (H3 := upd Hb D (.lst [])) (s3 := sc) (scope := scope) (cl := cellsFrom (sc.heap.objs.size + 1) scope.names (cloFrom X.env.cells scope.names [])) (fp := fp) (E := E) (W := W) (xe2 := xe2) (u := u) (Q := Qf) (acc := .ref D) hst hf tk hW Ic (fun c z => (fc c z).1)
    (ce := ce) h1 h2 h3 (ce0 := ce0) h4 h5
  have pg := hg sc (upd Hb D (.lst [])) sc.heap.objs.size (cellsFrom (sc.heap.objs.size + 1) scope.names (cloFrom X.env.cells scope.names [])) fp
  have pe := he sc (upd Hb D (.lst [])) sc.heap.objs.size (cellsFrom (sc.heap.objs.size + 1) scope.names (cloFrom X.env.cells scope.names [])) fp
  have l0 : (newEnv scope sc.heap.objs.size X.env.globals (cellsFrom (sc.heap.objs.size + 1) scope.names (cloFrom X.env.cells scope.names [])) X.env.qual none .none (some X.env) builtinsNs).locals = sc.heap.objs.size := rfl
  have f0 : (newEnv scope sc.heap.objs.size X.env.globals (cellsFrom (sc.heap.objs.size + 1) scope.names (cloFrom X.env.cells scope.names [])) X.env.qual none .none (some X.env) builtinsNs).frame = X.env.frame := rfl
  show codeAny (model X.prog X.w) X.A (.compStart (.ListComp e [⟨tg, it, [], 0⟩] scope po) 0 (.ref ia) (.ref D) (compEnvC scope (cellsFrom (sc.heap.objs.size + 1) scope.names (cloFrom X.env.cells scope.names [])) sc.heap.objs.size X.env))
    (postB (model X.prog X.w) X.A X.xe X.env scope u Qf (.ref D) (newEnv scope sc.heap.objs.size X.env.globals (cellsFrom (sc.heap.objs.size + 1) scope.names (cloFrom X.env.cells scope.names [])) X.env.qual none .none (some X.env) builtinsNs)) { sc with heap := pushCells (sc.heap.push { cls := .type "dict", data := .dict #[] }) scope.names }
  generalize newEnv scope sc.heap.objs.size X.env.globals (cellsFrom (sc.heap.objs.size + 1) scope.names (cloFrom X.env.cells scope.names [])) X.env.qual none .none (some X.env) builtinsNs = ce0 at l0 f0 ⊢
  have leave := fun xe2 => leaves xe2 (compEnvC scope (cellsFrom (sc.heap.objs.size + 1) scope.names (cloFrom X.env.cells scope.names [])) sc.heap.objs.size X.env) rfl rfl rfl ce0 l0 f0
  clear leaves
  have clean : ∀ c ∈ fp, (upd Hb D (.lst [])) c = none := fun c hc1 => (fc c hc1).1.1
  have cl1 : (compEnvC scope (cellsFrom (sc.heap.objs.size + 1) scope.names (cloFrom X.env.cells scope.names [])) sc.heap.objs.size X.env).locals = sc.heap.objs.size := rfl
  generalize compEnvC scope (cellsFrom (sc.heap.objs.size + 1) scope.names (cloFrom X.env.cells scope.names [])) sc.heap.objs.size X.env = ce at Id pg pe leave cl1 ⊢
  generalize upd Hb D (.lst []) = Hc at Ic Id pg pe leave w0 clean fc
  generalize hsd : ({ sc with heap := pushCells (sc.heap.push { cls := .type "dict", data := .dict #[] }) scope.names } : Shared) = sd at Id ⊢
  have std : tn 0 sd.heap := T.keep _ _ _ stc fun c _ o z => by rw [← hsd]; exact pushCells_keeps _ _ _ _ (Heap.get?_push_of_some _ z)
  have ftp : ∀ {ρ : L2.St} {G : Hp} {sz : Shared}, Inv (X.blk sc Hc scope ce fp) [] ρ G sz → (∀ c ∈ fp, G c = none) → ∀ c ∈ fp, FpOk (X.blk sc Hc scope ce fp) [] G c := fun {ρ G sz} Iz nn c hc1 =>
    ⟨nn c hc1, (Iz.ok.exf c hc1).1, Iz.ok.exfs c hc1, .inl hc1, fun y b z => (Iz.ok.exf c hc1).2 y b z, fun p hp => absurd (show p ∈ ([] : List (Addr × Obj)) ++ [] from hp) (by simp)⟩
  have whole : codeAny (model X.prog X.w) X.A (.compLoop (.ListComp e [⟨tg, it, [], 0⟩] scope po) 0 (.ref ia) (.ref D) ce) (postB (model X.prog X.w) X.A X.xe X.env scope u Qf (.ref D) ce0) sd := by
    refine compLoop_any (fun n sz => ∃ i G, Inv (X.blk sc Hc scope ce fp) [] (wipe σ (own.map (·.2))) G sz ∧ tn i sz.heap ∧ (∀ c ∈ fp, G c = none) ∧ Wt i n G) ?_ k0 ⟨0, Hc, Id, std, clean, w0⟩
    rintro n se ⟨i, G, Ie, ste, ne, we⟩
    rcases turn i n G we with ⟨stop, qq⟩ | ⟨go, Nx, less, step⟩
    · refine thnF (T.done (X.blk sc Hc scope ce fp) rfl rfl rfl calm i [] se _ G (fun _ _ => False) Ie (ftp Ie ne) ste stop) fun r sf ⟨hr, If⟩ => ?_
      subst hr
      have Ig : Inv X pins σ G sf := Ic.call' (ch := fp) If.os If.base If.hok If.bare fun c hc1 => ⟨(fc c hc1).1.2.2.2.1, (fc c hc1).1.2.1, (fc c hc1).1.2.2.2.2.1, (fc c hc1).1.2.2.2.2.2⟩
      have noC : G sc.heap.objs.size = none := by
        have z : G ce.locals = none := If.free
        rw [cl1] at z
        exact z
      obtain ⟨m, hn, _⟩ := If.loc
      have hn : sf.heap.Ns ce.locals m := hn
      rw [cl1] at hn
      have z := behind D sc.heap.objs.size sf m G Ig qq hn (Ic.fpOk (Nat.le_refl _) noC)
      rw [← l0] at z
      exact z
    · refine thnF (T.item (X.blk sc Hc scope ce fp) rfl rfl rfl calm i [] se _ G (fun _ _ => False) Ie (ftp Ie ne) ste go) fun r sf ⟨v, hr, hv⟩ => ?_
      subst hr
      refine thnF hv fun _ sg ⟨x, Gg, Ig, rg, yg, stg, ng⟩ => ?_
      have Ip := Ig.pinned (ftp Ig ng) (T.obj _ _ stg)
      refine thnF (pg.run _ sg _ Gg x v _ Ip rg (step x Gg yg)) fun _ sh ⟨σh, Gh, Ih, wh, qh⟩ => ?_
      refine thnF ((pts_nil (X := X.blk sc Hc scope ce fp)).run _ sh σh Gh _ Ih qh) fun b si ⟨Gi, Ii, qi⟩ => ?_
      have fin : ∀ {sz : Shared} {G2 : Hp}, Inv (X.blk sc Hc scope ce fp) ([] ++ pinsAt fp sg.heap) σh G2 sz → Nx G2 → ∃ m, m < n ∧ ∃ j G3, Inv (X.blk sc Hc scope ce fp) [] (wipe σ (own.map (·.2))) G3 sz ∧ tn j sz.heap ∧ (∀ c ∈ fp, G3 c = none) ∧ Wt j m G3 := fun {sz G2} Iz nx => by
        obtain ⟨m2, lt, w2⟩ := less G2 nx
        have stays : ∀ c ∈ fp, ∀ o, sg.heap.get? c = some o → sz.heap.get? c = some o ∧ G2 c = none := fun c hc1 o z => by
          have y := Iz.pin (c, o) (List.mem_append_right _ (List.mem_append_right _ (mem_pinsAt hc1 z)))
          exact ⟨y.1, y.2.1⟩
        have len : (wipe σ (own.map (·.2))).length = σh.length := by rw [← wh, wipe_length]
        refine ⟨m2, lt, i + 1, G2, (Iz.unpinned (pins := [])).weak len (fun j v z => ?_), T.keep _ _ _ stg fun c hc1 o z => (stays c hc1 o z).1, fun c hc1 => ?_, w2⟩
        · rw [← wh] at z
          exact (wipe_some z).1
        · obtain ⟨o, z, _⟩ := T.obj _ _ stg c hc1
          exact (stays c hc1 o z).2
      cases b with
      | false =>
        rw [if_neg Bool.false_ne_true] at qi ⊢
        exact fin Ii qi
      | true =>
        rw [if_pos rfl] at qi ⊢
        have pe2 := pe (notedBy (model X.prog X.w) X.A ce fun er s1 => postB (model X.prog X.w) X.A X.xe X.env scope u Qf (.ref D) ce0 (.error er) s1) fun ρ => leave _ ρ
        refine wpAny_mono (pe2.run _ si σh Gi _ (Inv.unwish (X := blkE X sc Hc scope ce fp _) (E := fun _ _ => False) Ii) qi) (fun z sj ⟨y, Gj, Ij, rj, acc, hacc, lacc, nx⟩ => ?_) fun _ _ z => z
        exact app_ok (X := X.blk sc Hc scope ce fp) (Inv.unwish Ij) hacc lacc rj fun sk Ik => fin Ik nx
  exact codeAny_compStart_list whole (T.self X.A 0 _ _ _ std whole)
/-- name = [e for t in it], the errors of e leave the statement -/
theorem ps_setLcX {X : Cx} {i : Nat} {y : Str} {py : Pos} {e tg it : Expr} {scope : Scope} {own : List (Str × Nat)} {po spo : Pos} {wi : TI} {g : TG} {te : TE} {E : XK} {W : WX}
    (hst : X.stack = X.env :: X.outer) (hf : X.env.frame = some X.env.locals) (tk : Takes X W) (hW : ∀ c d σ H, E c d H → W c d σ H) (calm : X.calm = true) (nd : X.N.Nodup) (hy : X.N[i]? = some y) (hyl : X.env.scope.names.lookup y = some .local)
    (hsw : swapsWith (.ListComp e [⟨tg, it, [], 0⟩] scope po) (some (.Name y py)) spo.line X.env = pure true) (hi : PI X tg it wi) (bk : BlkOk X.N X.env.scope scope own)
    (hg : ∀ (s : Shared) (H : Hp) (C : Addr) (cl : List (Str × Addr)) (fp : List Addr), PG (X.blk s H scope (compEnvC scope cl C X.env) fp) tg g)
    (he : ∀ (s : Shared) (H : Hp) (C : Addr) (cl : List (Str × Addr)) (fp : List Addr) (xe2 : Value → Shared → Prop), (∀ σ, PassesAt (L2.CX X.prog X.w) (blkE X s H scope (compEnvC scope cl C X.env) fp xe2) σ E) → PE (blkE X s H scope (compEnvC scope cl C X.env) fp xe2) e te) (hs : ∀ x, foldedSetIterable it X.env x = pure x := by intro _; rfl) :
    PS X (.Assign [.Name y py] (.ListComp e [⟨tg, it, [], 0⟩] scope po) spo) (tAsg (tLc wi g tYes te (own.map (·.2))) (gName i)) := by
  refine ⟨fun pins s σ H D I h => ?_⟩
  rw [exec_Assign_Name_used _ _ _ _ hsw]
  refine wpAny_bind (wpAny_standAt (wpAny_bind ?_))
  show wpAny _ X.A (do let _ ← comprehension (.ListComp e [⟨tg, it, [], 0⟩] scope po) scope X.env (firstIterPos [⟨tg, it, [], 0⟩] po) (newList []) false (eval it X.env) (some (assign (.Name y py) X.env))) _ _ s
  have h : tLc wi g tYes te (own.map (·.2)) σ H (fun v H1 => gName i v σ H1 D.nx) := h
  refine wpAny_bind (wpAny_mono (lcx_core (Qf := fun _ sz => SP X pins D .next sz) hst hf tk hW calm nd I hi bk hg he hs h fun L C sz m G Iz q hn fpk => ?_) (fun _ sz hz => wpAny_pure (wpAny_pure hz)) fun _ _ z => z)
  refine wpAny_assign_Name (store_ok2 (v := V.ref L) Iz nd hy (.inl hyl) rfl (fun s2 I2 ⟨a, same, ha⟩ => ?_) (.inr hyl))
  obtain ⟨f0, f1, f2, f3, f4, f5⟩ := fpk
  have ne : C ≠ a := by
    rcases ha with z | z
    · rw [z]; exact f1
    · exact fun q => f4 y a z q.symm
  refine ⟨m, hn.sameBut same ne, fun g3 same3 => ⟨_, G, I2.turned (t' := s2.toks) (fun c o hc z => (same3.2 c hc).trans z) f0 f1 f3 f4 f5, q⟩⟩
end Rz

namespace Rz
open PySem PySem.Spec PyProof.Rows L2 PySem.Builtin PySem.W
/-! ### x.encode('ascii'), b.decode('ascii') -/
theorem encA_tree (x : PySem.Str) (t u : Tok) : «str.encode» ⟨[.str x t, .str (PySem.Str.ofString "ascii") u], []⟩ = (_codecs.encodeRoad "str.encode" (.str x t) x (PySem.Str.ofString "ascii") none >>= fun v => ret v) := by
  first | rfl | kernel_rfl
theorem encA_road (id : String) (self : Value) (x : PySem.Str) : _codecs.encodeRoad id self x (PySem.Str.ofString "ascii") none = (_codecs.encodeNarrow id _codecs.asciiCodec none self x >>= fun v => mkBytes v) := by
  first | rfl | kernel_rfl
theorem decA_tree (c : UInt8) (cs : List UInt8) (t u : Tok) : «bytes.decode» ⟨[.bytes (c :: cs).toArray t, .str (PySem.Str.ofString "ascii") u], []⟩ = (mkStr (PySem.Str.ofString "utf-8") >>= fun _ => mkStr (PySem.Str.ofString "ascii") >>= fun e => mkStr (PySem.Str.ofString "bytes.decode") >>= fun d =>
    call (.builtin "_codecs.decode.text") [.bytes (c :: cs).toArray t, e, .none, d] >>= fun v => ret v) := by first | kernel_rfl | rfl
theorem decA_empty (t u : Tok) : «bytes.decode» ⟨[.bytes #[] t, .str (PySem.Str.ofString "ascii") u], []⟩ = (rule "bytes.decode.empty" >>= fun _ => mkStr PySem.Str.empty >>= fun v => ret v) := by first | kernel_rfl | rfl
theorem decA_road {id : String} {b : Array UInt8} : _codecs.decodeRoad id b (PySem.Str.ofString "ascii") none [] = (_codecs.runDecoder id _codecs.asciiDecoder none true b 0 [] >>= fun r => mkStr ⟨r.1⟩) := by first | kernel_rfl | rfl
theorem decA_args (a b : Value) : argsOk "bytes.decode" ⟨[a, b], []⟩ := by
  unfold argsOk; rw [signature?_of (id := "bytes.decode") (n := ['e', 'd', 'o', 'c', 'e', 'd']) (o := ['s', 'e', 't', 'y', 'b']) (by kernel_rfl) FB.owner_bytes]; kernel_rfl

theorem cp_enc {z : PySem.Str} (ha : KSb.Asc z) : (KSb.enc z).toList.map UInt8.toNat = z.cps.toList := by
  show ((z.cps.toList.map Nat.toUInt8).toArray.toList).map UInt8.toNat = _
  rw [List.map_map]
  show z.cps.toList.map (fun c => c.toUInt8.toNat) = _
  refine (List.map_congr_left (g := _root_.id) fun c hc => ?_).trans (List.map_id _)
  show c % 256 = c
  have := ha c hc
  omega
theorem no_odd {z : PySem.Str} (ha : KSb.Asc z) : z.cps.findIdx? _codecs.asciiCodec.bad = none := by
  rw [Array.findIdx?_eq_none_iff]
  intro c hc
  have h := ha c (Array.mem_toList_iff.mpr hc)
  show decide (c ≥ 128) = false
  exact decide_eq_false (by omega)
theorem fold_one : ∀ (l : List Nat) (acc : Array UInt8), l.foldl (fun acc y => acc ++ (_codecs.asciiCodec.bytesOf y).toArray) acc = acc ++ (l.map Nat.toUInt8).toArray
  | [], acc => by
    show acc = acc ++ #[]
    rw [Array.append_empty]
  | c :: l, acc => by
    rw [List.foldl_cons, fold_one l, List.map_cons]
    apply Array.toList_inj.mp
    show ((acc ++ [c.toUInt8].toArray) ++ _).toList = _
    simp
section
variable {M : Model} {A : Around} {E : Value → Shared → Prop} {s : Shared} {z : PySem.Str} {id : String} {me : Value}
theorem whole_cut (z : PySem.Str) : z.cps.extract 0 z.cps.size = z.cps := by
  first | exact Array.extract_size .. | simp
theorem narrow_asc {Q : Array UInt8 → Shared → Prop} (ha : KSb.Asc z) (hz : z.length ≤ 16777216) (h : Q (KSb.enc z) s) : wpAny M A (_codecs.encodeNarrow id _codecs.asciiCodec none me z) Q E s := by
  have n0 : ¬ ((#[] : Array UInt8).size > sizeLine) := by
    rw [sizeLine_eq]
    exact Nat.not_lt.mpr (Nat.zero_le _)
  have n1 : ¬ ((KSb.enc z).size > sizeLine) := by
    rw [KSb.enc_size, sizeLine_eq]
    omega
  have res : ((z.cps.extract 0 z.cps.size).extract 0 z.cps.size).foldl (fun acc y => acc ++ (_codecs.asciiCodec.bytesOf y).toArray) #[] = KSb.enc z := by
    rw [whole_cut, whole_cut, ← Array.foldl_toList, fold_one, Array.empty_append]
    rfl
  unfold _codecs.encodeNarrow
  refine wpAny_bind ?_
  rw [KPc.range_list]
  rcases hn : z.length with _ | n
  · show wpAny M A (forIn ([] : List Nat) _ _) _ E s
    rw [List.forIn_nil]
    refine wpAny_pure (wpAny_pure ?_)
    have e : KSb.enc z = #[] := Array.eq_empty_of_size_eq_zero (by rw [KSb.enc_size, hn])
    rw [e] at h
    exact h
  · have pos : 0 < z.cps.size := by
      show 0 < z.length
      omega
    have at0 : z.cps[0]? = some (z.cps[0]'pos) := Array.getElem?_eq_getElem pos
    have fine : _codecs.asciiCodec.bad (z.cps[0]'pos) = false := by
      have q := ha _ (Array.mem_toList_iff.mpr (Array.getElem_mem pos))
      show decide (_ ≥ 128) = false
      exact decide_eq_false (by omega)
    have all : (((z.cps.extract 0 z.cps.size).findIdx? _codecs.asciiCodec.bad).getD (z.cps.extract 0 z.cps.size).size) = z.cps.size := by
      rw [whole_cut, no_odd ha]
      rfl
    rw [List.range'_succ]
    refine KPc.turn (wpAny_ite (KBy.ite_no n0 ?_))
    try dsimp only
    rw [at0]
    try dsimp only
    refine wpAny_ite (KBc.ite_yes (by rw [fine]; rfl) ?_)
    rw [all, res]
    try dsimp only
    refine wpAny_pure ?_
    rcases n with _ | m
    · show wpAny M A (forIn ([] : List Nat) _ _) _ E s
      rw [List.forIn_nil]
      exact wpAny_pure (wpAny_pure h)
    · rw [List.range'_succ]
      refine KPc.turn (wpAny_ite (KBy.ite_no n1 ?_))
      try dsimp only
      have past : z.cps[0 + z.cps.size]? = none := Array.getElem?_eq_none (by omega)
      rw [past]
      try dsimp only
      exact wpAny_pure (wpAny_pure h)
end

theorem found_asc {b : Array UInt8} {p : Nat} (h : (b.getD p 0).toNat < 128) : _codecs.asciiDecoder.find true b p = .text [(b.getD p 0).toNat] (p + 1) := by
  show (if (b.getD p 0).toNat < 128 then _codecs.Found.char (b.getD p 0).toNat (p + 1) else _) = _
  rw [if_pos h]
  rfl
theorem runA {b : Array UInt8} (low : ∀ p, p < b.size → (b.getD p 0).toNat < 128) (small : b.size ≤ 16777216) (name : String) :
    _codecs.runDecoder name _codecs.asciiDecoder none true b 0 [] = pure ((b.toList.map UInt8.toNat).toArray, b.size) := by
  have fits : ∀ p, ¬ ((KBdo.out b p).size > sizeLine) := fun p => by
    have q := KBdo.out_size b p
    rw [sizeLine_eq]
    omega
  unfold _codecs.runDecoder
  refine (KBdo.loop_bind (mk := fun p => ((p, KBdo.out b p, ({} : _codecs.Faults)) : Nat × Array Nat × _codecs.Faults)) (n := b.size) (fun y p hp => ?_)).trans ?_
  · simp only [if_neg (fits p), if_neg (Nat.not_le.mpr hp), found_asc (low p hp), KBdo.out_next hp]
  · show pure (KBdo.out b b.size, b.size) = _
    rw [KBdo.out_whole]
theorem enc_low {z : PySem.Str} (ha : KSb.Asc z) (p : Nat) (hp : p < (KSb.enc z).size) : ((KSb.enc z).getD p 0).toNat < 128 := by
  have e : (KSb.enc z).toList[p]? = some ((KSb.enc z).getD p 0) := by
    rw [Array.getElem?_toList, Array.getElem?_eq_getElem hp]
    simp [Array.getD, hp]
  have e2 : ((KSb.enc z).toList.map UInt8.toNat)[p]? = some ((KSb.enc z).getD p 0).toNat := by
    rw [List.getElem?_map, e]
    rfl
  rw [cp_enc ha] at e2
  exact ha _ (List.mem_of_getElem? e2)
theorem runA_enc {z : PySem.Str} (ha : KSb.Asc z) (hz : z.length ≤ 16777216) (name : String) : _codecs.runDecoder name _codecs.asciiDecoder none true (KSb.enc z) 0 [] = pure (z.cps, (KSb.enc z).size) := by
  rw [runA (enc_low ha) (by rw [KSb.enc_size]; exact hz), cp_enc ha]
theorem meets_textA {z : PySem.Str} {t t1 t2 : Tok} {d : PySem.Str} (ha : KSb.Asc z) (hz : z.length ≤ 16777216) :
    Meets («_codecs.decode.text» ⟨[.bytes (KSb.enc z) t, .str (PySem.Str.ofString "ascii") t1, .none, .str d t2], []⟩) (fun _ R s => R (.ok (.ret (.str z s.toks))) { s with toks := s.toks + 1 }) := by
  refine .of_wp fun prog w A R s h => ?_
  show wpAny _ _ (Bytes.bytesLike _ (.bytes (KSb.enc z) t) >>= fun r => _) _ _ s
  refine wpAny_bind (wpAny_of_eq KBd.like_eq (wpAny_bind (wpAny_of_eq KBd.held_eq ?_)))
  show wpAny _ _ (_codecs.decodeRoad _ (KSb.enc z) (PySem.Str.ofString "ascii") none [] >>= fun v => _) _ _ s
  rw [decA_road, runA_enc ha hz]
  refine wpAny_bind (wpAny_bind (wpAny_pure (wpAny_mkStr (wpAny_pure ⟨_, rfl, h⟩) ?_)))
  rw [sizeLine_eq]
  exact hz
theorem meets_decA {z : PySem.Str} {t u : Tok} (ha : KSb.Asc z) (hz : z.length ≤ 16777216) :
    Meets («bytes.decode» ⟨[.bytes (KSb.enc z) t, .str (PySem.Str.ofString "ascii") u], []⟩) (fun _ R s => ∀ t' k, R (.ok (.ret (.str z t'))) { s with toks := k }) := by
  refine .of_wp fun prog w A R s h => ?_
  have cz := cp_enc ha
  have mt := fun t t1 t2 d => meets_textA (t := t) (t1 := t1) (t2 := t2) (d := d) ha hz
  generalize KSb.enc z = b at cz mt
  obtain ⟨l⟩ := b
  cases l with
  | nil =>
    have e : z = PySem.Str.empty := by
      have q : z.cps = #[] := by
        apply Array.toList_inj.mp
        exact cz.symm
      cases z
      exact congrArg PySem.Str.mk q
    rw [e] at h
    rw [decA_empty]
    exact wpAny_bind (wpAny_rule (wpAny_bind (wpAny_mkStr (wpAny_pure ⟨_, rfl, h _ _⟩) (by decide))))
  | cons c cs =>
    rw [decA_tree]
    refine wpAny_bind (wpAny_mkStr ?_ (by decide))
    refine wpAny_bind (wpAny_mkStr ?_ (by decide))
    refine wpAny_bind (wpAny_mkStr ?_ (by decide))
    exact wpAny_bind (call_function_meets KBd.kind_text KBd.plain_text KBd.entry_text (KBd.args_text _ _ _ _) (mt _ _ _ _) (wpAny_pure ⟨_, rfl, h _ _⟩))
theorem meets_encA {z : PySem.Str} {t u : Tok} (ha : KSb.Asc z) (hz : z.length ≤ 16777216) : Meets («str.encode» ⟨[.str z t, .str (PySem.Str.ofString "ascii") u], []⟩) (fun _ R s => ∀ t' k, R (.ok (.ret (.bytes (KSb.enc z) t'))) { s with toks := k }) := by
  refine .of_wp fun prog w A R s h => ?_
  rw [encA_tree, encA_road]
  refine wpAny_bind (wpAny_bind (narrow_asc ha hz (wpAny_mkBytes ?_ (by rw [KSb.enc_size, sizeLine_eq]; exact hz))))
  exact wpAny_pure ⟨_, rfl, h _ _⟩
section
variable {X : Cx} {o : Expr} {to : TE} {j : Nat} {p1 : Pos}
theorem mt_encA : MtR X "str.encode" (fun x xs H Q => ∃ z, x = .str z ∧ xs = [.str (PySem.Str.ofString "ascii")] ∧ KSb.Asc z ∧ z.length ≤ 16777216 ∧ Q (.byt (KSb.enc z)) H) := by
  intro pins s σ H x xs v us Q I rx rs h
  obtain ⟨z, rfl, rfl, ha, hz, q⟩ := h
  obtain ⟨t, rfl⟩ := rx
  obtain ⟨u1, rfl, u, rfl⟩ := vals1 rs
  exact call_meets F.slot_str_encode (typeIs_str _ _ _) F.entry_str_encode (F.args_str_encode_2 _ _) (meets_encA ha hz) fun t' k => ⟨.byt (KSb.enc z), H, I.tok k, ⟨t', rfl⟩, q⟩
theorem pe_encA {apos pos : Pos} (ho : PE X o to) (hbase : attributeBase o "encode" X.env (eval o X.env) = eval o X.env := by rfl) (hline : (apos.endLine == pos.line) = true := by rfl) :
    PE X (.Call (.Attribute o "encode" apos) [.Constant (.str "ascii") j p1] [] pos) (tM1 (fun x xs H Q => ∃ z, x = .str z ∧ xs = [.str "ascii"] ∧ KSb.Asc z ∧ z.length ≤ 16777216 ∧ Q (.byt (KSb.enc z)) H) to (tC (.str "ascii"))) :=
  pe_m1 F.slot_str_encode F.type_str_encode mt_encA ho pe_str (by rfl) hbase hline
/-- e.decode('ascii') of bytes -/
def tDecA (to : TE) : TE := fun σ H Q => to σ H fun x H1 => ∃ z, x = .byt (KSb.enc z) ∧ KSb.Asc z ∧ z.length ≤ 16777216 ∧ Q (.str z) H1
theorem pe_decA {apos pos : Pos} (ho : PE X o to) (hbase : attributeBase o "decode" X.env (eval o X.env) = eval o X.env := by rfl) (hline : (apos.endLine == pos.line) = true := by rfl) :
    PE X (.Call (.Attribute o "decode" apos) [.Constant (.str "ascii") j p1] [] pos) (tDecA to) := by
  refine ⟨fun pins s σ H Q I h => ?_⟩
  refine PySem.Call_method1 hbase (by rfl) hline (thn (ho.run pins s σ H _ I h) fun v s1 ⟨x, H1, I1, r1, q1⟩ => ?_)
  obtain ⟨z, rfl, ha, hz, q⟩ := q1
  obtain ⟨t, rfl⟩ := r1
  refine ⟨"bytes", _, FB.plainAttrs_bytes, FB.slot_bytes_decode, FB.type_bytes_decode, typeIs_bytes _ _ _, (fun _ e => nomatch e), Calls.callWith_builtin rfl (Calls.evalArgs_plain (Calls.spliced_cons ?_))⟩
  refine thn ((pe_str (X := X) (x := "ascii") (j := j) (pos := p1)).run pins s1 σ H1 (fun y H2 => y = V.str "ascii" ∧ H2 = H1) I1 ⟨rfl, rfl⟩) fun u s2 hu => Calls.spliced_nil ?_
  obtain ⟨y, H2, I2, r2, rfl, rfl⟩ := hu
  obtain ⟨u0, rfl⟩ := r2
  exact call_meets FB.slot_bytes_decode (typeIs_bytes _ _ _) FB.entry_bytes_decode (decA_args _ _) (meets_decA ha hz) fun t' k => ⟨.str z, _, I2.tok k, ⟨t', rfl⟩, q⟩
end
end Rz

namespace Rz
open PySem PySem.Spec PyProof.Rows L2
/-! ### [c, .., o.replace(a, b), ..]: two written texts behind a written text -/
section
variable {X : Cx} {o : Expr} {es : List Expr} {to : TE} {ta : TA} {b c : Str} {j j1 j2 : Nat} {apos pos p p1 p2 : Pos}
theorem pat_of (h : PA X es ta) : PAT X es ta := fun pos pins s σ H Q _ I q => h.run pos pins s σ H Q I q
theorem pa_lit (hr : PAT X es ta) (hs : starEach (.Constant (.str c) j p :: es) X.env = (false, eval (.Constant (.str c) j p) X.env) :: starEach es X.env := by rfl) : PA X (.Constant (.str c) j p :: es) (tCons (tC (.str c)) ta) := by
  refine ⟨fun pos pins s σ H Q I h => ?_⟩
  rw [hs]
  show wpAny _ _ (spliced ((false, eval (.Constant (.str c) j p) X.env) :: backTo pos (starEach es X.env))) _ _ s
  refine Calls.spliced_cons (Calls.Constant_str ?_)
  refine thn (hr pos pins { s with toks := s.toks + 1 } σ H _ (Nat.succ_le_succ (Nat.zero_le _)) (I.tok (s.toks + 1)) h) fun us s2 h2 => ?_
  obtain ⟨xs, H2, I2, r2, q2⟩ := h2
  exact ⟨.str c :: xs, H2, I2, .cons ⟨_, rfl⟩ r2, q2⟩
def tRepL (b c : Str) (to : TE) : TE := fun σ H Q => to σ H fun x H1 => ∃ a, x = .str a ∧ (b == c) = false ∧ a.length + (a.length + 1) * c.length ≤ 16777216 ∧ Q (.str (Txt.replace a b c)) H1
theorem pet_rep (ho : PE X o to) (hst : starEach [.Constant (.str b) j1 p1, .Constant (.str c) j2 p2] X.env = [(false, eval (.Constant (.str b) j1 p1) X.env), (false, eval (.Constant (.str c) j2 p2) X.env)] := by rfl)
    (hbase : attributeBase o "replace" X.env (eval o X.env) = eval o X.env := by rfl) (hline : (apos.endLine == pos.line) = true := by rfl) :
    PET X (.Call (.Attribute o "replace" apos) [.Constant (.str b) j1 p1, .Constant (.str c) j2 p2] [] pos) (tRepL b c to) := by
  intro pins s σ H Q h0 I h
  refine PySem.Call_method2 hbase hst hline (wpAny_mono (PySem.wpAny_toks (ho.run pins s σ H _ I h)) (fun v s1 hv => ?_) fun _ _ z => z.2)
  obtain ⟨hk, x, H1, I1, r1, a, ea, hbc, hz, q⟩ := hv
  subst ea
  obtain ⟨tx, rfl⟩ := r1
  have one : 1 ≤ s1.toks := Nat.le_trans h0 hk
  refine ⟨"str", _, PySem.F.plainAttrs_str, PySem.F.slot_str_replace, PySem.F.type_str_replace, typeIs_str _ _ _, (fun _ e => nomatch e), Calls.callWith_builtin rfl (Calls.evalArgs_plain (Calls.spliced_cons ?_))⟩
  refine Calls.Constant_str (Calls.spliced_cons (Calls.Constant_str (Calls.spliced_nil ?_)))
  exact PySem.SC.replace (Nat.ne_of_gt one) (Nat.succ_ne_zero _) (Nat.ne_of_lt (Nat.lt_succ_self _)) hbc hz fun t' k => ⟨.str _, H1, I1.tok k, ⟨t', rfl⟩, q⟩
end
end Rz

namespace Rz
open PySem L2
/-! ### the text by places -/
def top (i : Nat) : Stmt := PySem.Challenge.pw_risensigns_k10_book_read.main.body.getD i (.Pass ⟨0, 0, 0, 0⟩)
abbrev prg : Program := PySem.Challenge.pw_risensigns_k10_book_read
abbrev s_check_text : Stmt := top 17
abbrev s_decoded : Stmt := top 15
abbrev s_check_height : Stmt := top 18
abbrev s_Row_init : Stmt := inClass (top 20) 0
abbrev s_Row_len : Stmt := inClass (top 20) 3
abbrev s_Rule_init : Stmt := inClass (top 25) 0
abbrev s_Rule_str : Stmt := inClass (top 25) 1
abbrev s_Book_init : Stmt := inClass (top 26) 0
abbrev s_Book_iter : Stmt := inClass (top 26) 5
abbrev s_Book_written : Stmt := inClass (top 26) 9
abbrev s_Book_data : Stmt := inClass (top 26) 10
abbrev s__read_rule : Stmt := top 29
abbrev s_Book_read : Stmt := inClass (top 26) 1
abbrev s__law_pool : Stmt := top 31
abbrev s__law_pick : Stmt := top 32
abbrev s__law_alphabet : Stmt := top 33
abbrev s__law_word_of : Stmt := top 34
abbrev s__law_is_int : Stmt := top 35
abbrev s__law_odd_sign : Stmt := top 36
abbrev s__law_first_odd : Stmt := top 37
abbrev s__law_is_text : Stmt := top 38
abbrev s__law_due_of : Stmt := top 39
abbrev s__law_try_make : Stmt := top 40
abbrev s__law_same : Stmt := top 41
abbrev s__law_first_bad : Stmt := top 42
abbrev s__law_change : Stmt := top 43
abbrev s_law : Stmt := top 44
abbrev s_BadSign_init : Stmt := inClass (top 3) 0
abbrev s_BadHeight_init : Stmt := inClass (top 6) 0
abbrev s_BadLine_init : Stmt := inClass (top 8) 0
abbrev N_check_text : List Str := ["text", "at", "sign"]
abbrev P_check_text : List Str := ["text"]
abbrev N_decoded : List Str := ["text"]
abbrev P_decoded : List Str := ["text"]
abbrev N_check_height : List Str := ["height", "greatest"]
abbrev P_check_height : List Str := ["height", "greatest"]
abbrev N_Row_init : List Str := ["self", "text", "heights", "signs", "height"]
abbrev P_Row_init : List Str := ["self", "text", "heights"]
abbrev N_Row_len : List Str := ["self"]
abbrev P_Row_len : List Str := ["self"]
abbrev N_Rule_init : List Str := ["self", "left", "right"]
abbrev P_Rule_init : List Str := ["self", "left", "right"]
abbrev N_Rule_str : List Str := ["self"]
abbrev P_Rule_str : List Str := ["self"]
abbrev N_Book_init : List Str := ["self", "rules"]
abbrev P_Book_init : List Str := ["self", "rules"]
abbrev N_Book_iter : List Str := ["self"]
abbrev P_Book_iter : List Str := ["self"]
abbrev N_Book_written : List Str := ["self", "rule"]
abbrev P_Book_written : List Str := ["self"]
abbrev N_Book_data : List Str := ["self"]
abbrev P_Book_data : List Str := ["self"]
abbrev N__read_rule : List Str := ["line", "number", "sides", "why"]
abbrev P__read_rule : List Str := ["line", "number"]
abbrev N_Book_read : List Str := ["cls", "text", "written", "lines", "number", "line", "rules"]
abbrev P_Book_read : List Str := ["cls", "text"]
abbrev N__law_pool : List Str := ["_law_script", "_law_draws", "_law_seed", "_law_cell", "_law_rest", "_law_k", "_law_value"]
abbrev P__law_pool : List Str := ["_law_script"]
abbrev N__law_pick : List Str := ["_law_draws", "_law_many"]
abbrev P__law_pick : List Str := ["_law_draws", "_law_many"]
abbrev N__law_alphabet : List Str := ["_law_draws", "_law_many", "_law_letters", "_law_signs", "_law_k", "_law_letter", "_law_left"]
abbrev P__law_alphabet : List Str := ["_law_draws", "_law_many"]
abbrev N__law_word_of : List Str := ["_law_draws", "_law_signs", "_law_least", "_law_greatest", "_law_size", "_law_k"]
abbrev P__law_word_of : List Str := ["_law_draws", "_law_signs", "_law_least", "_law_greatest"]
abbrev N__law_is_int : List Str := ["_law_value"]
abbrev P__law_is_int : List Str := ["_law_value"]
abbrev N__law_odd_sign : List Str := ["_law_draws", "_law_odd"]
abbrev P__law_odd_sign : List Str := ["_law_draws"]
abbrev N__law_first_odd : List Str := ["_law_text", "_law_at"]
abbrev P__law_first_odd : List Str := ["_law_text"]
abbrev N__law_is_text : List Str := ["_law_text", "_law_least", "_law_greatest"]
abbrev P__law_is_text : List Str := ["_law_text", "_law_least", "_law_greatest"]
abbrev N__law_due_of : List Str := ["_law_text", "_law_lines", "_law_rules", "_law_k", "_law_parts"]
abbrev P__law_due_of : List Str := ["_law_text"]
abbrev N__law_try_make : List Str := ["_law_text", "_law_book", "e"]
abbrev P__law_try_make : List Str := ["_law_text"]
abbrev N__law_same : List Str := ["_law_told", "_law_due", "_law_text", "_law_book", "_law_rule"]
abbrev P__law_same : List Str := ["_law_told", "_law_due", "_law_text"]
abbrev N__law_first_bad : List Str := ["_law_data", "e"]
abbrev P__law_first_bad : List Str := ["_law_data"]
abbrev N__law_change : List Str := ["_law_draws", "_law_line", "_law_signs", "_law_at", "_law_odd", "_law_far", "_law_kinds"]
abbrev P__law_change : List Str := ["_law_draws", "_law_line", "_law_signs"]
abbrev N_law : List Str := ["_law_script", "_law_draws", "_law_signs", "_law_lines", "_law_k", "_law_left", "_law_at", "_law_text", "_law_due", "_law_told", "_law_data", "_law_sign"]
abbrev P_law : List Str := ["_law_script"]
/-! ### what stands behind the top -/
structure Txt (K : PySem.W.Frag) (mg : Str → Option Value) : Type where
  n_abs : mg "abs" = none
  n_bool : mg "bool" = none
  n_bytes : mg "bytes" = none
  n_classmethod : mg "classmethod" = none
  n_enumerate : mg "enumerate" = none
  n_int : mg "int" = none
  n_isinstance : mg "isinstance" = none
  n_iter : mg "iter" = none
  n_len : mg "len" = none
  n_list : mg "list" = none
  n_ord : mg "ord" = none
  n_range : mg "range" = none
  n_str : mg "str" = none
  n_tuple : mg "tuple" = none
  n_zip : mg "zip" = none
  k_SIGNS : ∃ t, mg "SIGNS" = some (.str "abcdefghijklmnopqrstuvwxyz" t)
  k_GREATEST_HEIGHT : ∃ t, mg "GREATEST_HEIGHT" = some (.int 9 t)
  k_MOST_SIGNS : ∃ t, mg "MOST_SIGNS" = some (.int 4 t)
  k_MOST_RULES : ∃ t, mg "MOST_RULES" = some (.int 6 t)
  c_BadSign : Addr
  m_BadSign : mg "BadSign" = some (.ref c_BadSign)
  o_BadSign : OexC K c_BadSign
  x_BadSign : ExF K c_BadSign "at"
  f_BadSign_init : Addr
  fd_BadSign_init : FuncData
  i_BadSign : PySem.W.findIn K (.ref c_BadSign) "__init__" = some (some (.ref f_BadSign_init))
  t_BadSign : PySem.W.typeIn K (.ref f_BadSign_init) = some (.type "function")
  F_BadSign_init : ExInit prg K mg c_BadSign f_BadSign_init fd_BadSign_init "at" s_BadSign_init
  b_BadSign_init : Binds K fd_BadSign_init ["self", "at"] []
  em_BadSign_BadSign : PySem.W.exmOne K (.ref c_BadSign) (.ref c_BadSign) = some true
  -- em_BadSign_BadHeight below
  -- em_BadSign_BadLine below
  -- em_BadSign_Uneven below
  -- em_BadSign_BadRule below
  -- em_BadSign_BookFull below
  c_BadHeight : Addr
  m_BadHeight : mg "BadHeight" = some (.ref c_BadHeight)
  o_BadHeight : OexC K c_BadHeight
  x_BadHeight : ExF K c_BadHeight "height"
  f_BadHeight_init : Addr
  fd_BadHeight_init : FuncData
  i_BadHeight : PySem.W.findIn K (.ref c_BadHeight) "__init__" = some (some (.ref f_BadHeight_init))
  t_BadHeight : PySem.W.typeIn K (.ref f_BadHeight_init) = some (.type "function")
  F_BadHeight_init : ExInit prg K mg c_BadHeight f_BadHeight_init fd_BadHeight_init "height" s_BadHeight_init
  b_BadHeight_init : Binds K fd_BadHeight_init ["self", "height"] []
  em_BadHeight_BadSign : PySem.W.exmOne K (.ref c_BadHeight) (.ref c_BadSign) = some false
  em_BadHeight_BadHeight : PySem.W.exmOne K (.ref c_BadHeight) (.ref c_BadHeight) = some true
  -- em_BadHeight_BadLine below
  -- em_BadHeight_Uneven below
  -- em_BadHeight_BadRule below
  -- em_BadHeight_BookFull below
  c_BadLine : Addr
  m_BadLine : mg "BadLine" = some (.ref c_BadLine)
  o_BadLine : OexC K c_BadLine
  x_BadLine : ExF K c_BadLine "line"
  f_BadLine_init : Addr
  fd_BadLine_init : FuncData
  i_BadLine : PySem.W.findIn K (.ref c_BadLine) "__init__" = some (some (.ref f_BadLine_init))
  t_BadLine : PySem.W.typeIn K (.ref f_BadLine_init) = some (.type "function")
  F_BadLine_init : ExInit prg K mg c_BadLine f_BadLine_init fd_BadLine_init "line" s_BadLine_init
  b_BadLine_init : Binds K fd_BadLine_init ["self", "line"] []
  em_BadLine_BadSign : PySem.W.exmOne K (.ref c_BadLine) (.ref c_BadSign) = some false
  em_BadLine_BadHeight : PySem.W.exmOne K (.ref c_BadLine) (.ref c_BadHeight) = some false
  em_BadLine_BadLine : PySem.W.exmOne K (.ref c_BadLine) (.ref c_BadLine) = some true
  -- em_BadLine_Uneven below
  -- em_BadLine_BadRule below
  -- em_BadLine_BookFull below
  c_Uneven : Addr
  m_Uneven : mg "Uneven" = some (.ref c_Uneven)
  o_Uneven : PySem.W.excIn K c_Uneven [.type "ValueError", .type "Exception", .type "BaseException", .type "object"] "ValueError.__new__" = true
  kp_Uneven : PySem.W.keepIn K (.ref c_Uneven) = true
  r_Uneven : PySem.W.subIn K (.ref c_Uneven) (.type "BaseException") = some true
  t_Uneven : PySem.W.typeIn K (.ref c_Uneven) = some (.type "type")
  em_Uneven_BadSign : PySem.W.exmOne K (.ref c_Uneven) (.ref c_BadSign) = some false
  em_Uneven_BadHeight : PySem.W.exmOne K (.ref c_Uneven) (.ref c_BadHeight) = some false
  em_Uneven_BadLine : PySem.W.exmOne K (.ref c_Uneven) (.ref c_BadLine) = some false
  em_Uneven_Uneven : PySem.W.exmOne K (.ref c_Uneven) (.ref c_Uneven) = some true
  -- em_Uneven_BadRule below
  -- em_Uneven_BookFull below
  c_BadRule : Addr
  m_BadRule : mg "BadRule" = some (.ref c_BadRule)
  o_BadRule : PySem.W.excIn K c_BadRule [.type "ValueError", .type "Exception", .type "BaseException", .type "object"] "ValueError.__new__" = true
  kp_BadRule : PySem.W.keepIn K (.ref c_BadRule) = true
  r_BadRule : PySem.W.subIn K (.ref c_BadRule) (.type "BaseException") = some true
  t_BadRule : PySem.W.typeIn K (.ref c_BadRule) = some (.type "type")
  em_BadRule_BadSign : PySem.W.exmOne K (.ref c_BadRule) (.ref c_BadSign) = some false
  em_BadRule_BadHeight : PySem.W.exmOne K (.ref c_BadRule) (.ref c_BadHeight) = some false
  em_BadRule_BadLine : PySem.W.exmOne K (.ref c_BadRule) (.ref c_BadLine) = some false
  em_BadRule_Uneven : PySem.W.exmOne K (.ref c_BadRule) (.ref c_Uneven) = some false
  em_BadRule_BadRule : PySem.W.exmOne K (.ref c_BadRule) (.ref c_BadRule) = some true
  -- em_BadRule_BookFull below
  c_BookFull : Addr
  m_BookFull : mg "BookFull" = some (.ref c_BookFull)
  o_BookFull : PySem.W.excIn K c_BookFull [.type "ValueError", .type "Exception", .type "BaseException", .type "object"] "ValueError.__new__" = true
  kp_BookFull : PySem.W.keepIn K (.ref c_BookFull) = true
  r_BookFull : PySem.W.subIn K (.ref c_BookFull) (.type "BaseException") = some true
  t_BookFull : PySem.W.typeIn K (.ref c_BookFull) = some (.type "type")
  em_BookFull_BadSign : PySem.W.exmOne K (.ref c_BookFull) (.ref c_BadSign) = some false
  em_BookFull_BadHeight : PySem.W.exmOne K (.ref c_BookFull) (.ref c_BadHeight) = some false
  em_BookFull_BadLine : PySem.W.exmOne K (.ref c_BookFull) (.ref c_BadLine) = some false
  em_BookFull_Uneven : PySem.W.exmOne K (.ref c_BookFull) (.ref c_Uneven) = some false
  em_BookFull_BadRule : PySem.W.exmOne K (.ref c_BookFull) (.ref c_BadRule) = some false
  em_BookFull_BookFull : PySem.W.exmOne K (.ref c_BookFull) (.ref c_BookFull) = some true
  em_BadSign_BadHeight : PySem.W.exmOne K (.ref c_BadSign) (.ref c_BadHeight) = some false
  em_BadSign_BadLine : PySem.W.exmOne K (.ref c_BadSign) (.ref c_BadLine) = some false
  em_BadSign_Uneven : PySem.W.exmOne K (.ref c_BadSign) (.ref c_Uneven) = some false
  em_BadSign_BadRule : PySem.W.exmOne K (.ref c_BadSign) (.ref c_BadRule) = some false
  em_BadSign_BookFull : PySem.W.exmOne K (.ref c_BadSign) (.ref c_BookFull) = some false
  em_BadHeight_BadLine : PySem.W.exmOne K (.ref c_BadHeight) (.ref c_BadLine) = some false
  em_BadHeight_Uneven : PySem.W.exmOne K (.ref c_BadHeight) (.ref c_Uneven) = some false
  em_BadHeight_BadRule : PySem.W.exmOne K (.ref c_BadHeight) (.ref c_BadRule) = some false
  em_BadHeight_BookFull : PySem.W.exmOne K (.ref c_BadHeight) (.ref c_BookFull) = some false
  em_BadLine_Uneven : PySem.W.exmOne K (.ref c_BadLine) (.ref c_Uneven) = some false
  em_BadLine_BadRule : PySem.W.exmOne K (.ref c_BadLine) (.ref c_BadRule) = some false
  em_BadLine_BookFull : PySem.W.exmOne K (.ref c_BadLine) (.ref c_BookFull) = some false
  em_Uneven_BadRule : PySem.W.exmOne K (.ref c_Uneven) (.ref c_BadRule) = some false
  em_Uneven_BookFull : PySem.W.exmOne K (.ref c_Uneven) (.ref c_BookFull) = some false
  em_BadRule_BookFull : PySem.W.exmOne K (.ref c_BadRule) (.ref c_BookFull) = some false
  c_Row : Addr
  m_Row : mg "Row" = some (.ref c_Row)
  cl_Row : Cls K c_Row
  mk_Row : PySem.W.makesIn K c_Row = true
  kp_Row : PySem.W.keepIn K (.ref c_Row) = true
  is_Row : C8.InsC K c_Row
  sf_Row : PySem.W.selfFirst K c_Row = true
  nsq_Row : PySem.W.noSeq K c_Row = true
  na_Row__pairs : NoAttr K c_Row "_pairs"
  c_Rule : Addr
  m_Rule : mg "Rule" = some (.ref c_Rule)
  cl_Rule : Cls K c_Rule
  mk_Rule : PySem.W.makesIn K c_Rule = true
  kp_Rule : PySem.W.keepIn K (.ref c_Rule) = true
  is_Rule : C8.InsC K c_Rule
  sf_Rule : PySem.W.selfFirst K c_Rule = true
  na_Rule_left : NoAttr K c_Rule "left"
  na_Rule_right : NoAttr K c_Rule "right"
  c_Book : Addr
  m_Book : mg "Book" = some (.ref c_Book)
  cl_Book : Cls K c_Book
  mk_Book : PySem.W.makesIn K c_Book = true
  kp_Book : PySem.W.keepIn K (.ref c_Book) = true
  is_Book : C8.InsC K c_Book
  sf_Book : PySem.W.selfFirst K c_Book = true
  na_Book__rules : NoAttr K c_Book "_rules"
  f_check_text : Addr
  fd_check_text : FuncData
  F_check_text : Fun K "check_text" "check_text" s_check_text f_check_text fd_check_text
  b_check_text : Binds K fd_check_text P_check_text []
  m_check_text : mg "check_text" = some (.ref f_check_text)
  f_decoded : Addr
  fd_decoded : FuncData
  F_decoded : Fun K "decoded" "decoded" s_decoded f_decoded fd_decoded
  b_decoded : Binds K fd_decoded P_decoded []
  m_decoded : mg "decoded" = some (.ref f_decoded)
  f_check_height : Addr
  fd_check_height : FuncData
  F_check_height : Fun K "check_height" "check_height" s_check_height f_check_height fd_check_height
  b_check_height : Binds K fd_check_height P_check_height []
  m_check_height : mg "check_height" = some (.ref f_check_height)
  f_Row_init : Addr
  fd_Row_init : FuncData
  D_Row_init : FunD K "__init__" "Row.__init__" (defArgs s_Row_init) (defBody s_Row_init) (defScope s_Row_init) [.str "", .non] [] f_Row_init fd_Row_init
  kp_Row_init : PySem.W.keepIn K (.ref f_Row_init) = true
  M_Row_init : Meth K c_Row "__init__" f_Row_init
  f_Row_len : Addr
  fd_Row_len : FuncData
  F_Row_len : Fun K "__len__" "Row.__len__" s_Row_len f_Row_len fd_Row_len
  b_Row_len : Binds K fd_Row_len P_Row_len []
  M_Row_len : Meth K c_Row "__len__" f_Row_len
  f_Rule_init : Addr
  fd_Rule_init : FuncData
  D_Rule_init : FunD K "__init__" "Rule.__init__" (defArgs s_Rule_init) (defBody s_Rule_init) (defScope s_Rule_init) [.str ""] [] f_Rule_init fd_Rule_init
  kp_Rule_init : PySem.W.keepIn K (.ref f_Rule_init) = true
  M_Rule_init : Meth K c_Rule "__init__" f_Rule_init
  f_Rule_str : Addr
  fd_Rule_str : FuncData
  F_Rule_str : Fun K "__str__" "Rule.__str__" s_Rule_str f_Rule_str fd_Rule_str
  b_Rule_str : Binds K fd_Rule_str P_Rule_str []
  M_Rule_str : Meth K c_Rule "__str__" f_Rule_str
  f_Book_init : Addr
  fd_Book_init : FuncData
  F_Book_init : Fun K "__init__" "Book.__init__" s_Book_init f_Book_init fd_Book_init
  M_Book_init : Meth K c_Book "__init__" f_Book_init
  f_Book_iter : Addr
  fd_Book_iter : FuncData
  F_Book_iter : Fun K "__iter__" "Book.__iter__" s_Book_iter f_Book_iter fd_Book_iter
  b_Book_iter : Binds K fd_Book_iter P_Book_iter []
  M_Book_iter : Meth K c_Book "__iter__" f_Book_iter
  f_Book_written : Addr
  fd_Book_written : FuncData
  F_Book_written : Fun K "written" "Book.written" s_Book_written f_Book_written fd_Book_written
  b_Book_written : Binds K fd_Book_written P_Book_written []
  M_Book_written : Meth K c_Book "written" f_Book_written
  f_Book_data : Addr
  fd_Book_data : FuncData
  F_Book_data : Fun K "data" "Book.data" s_Book_data f_Book_data fd_Book_data
  b_Book_data : Binds K fd_Book_data P_Book_data []
  M_Book_data : Meth K c_Book "data" f_Book_data
  f__read_rule : Addr
  fd__read_rule : FuncData
  F__read_rule : Fun K "_read_rule" "_read_rule" s__read_rule f__read_rule fd__read_rule
  b__read_rule : Binds K fd__read_rule P__read_rule []
  m__read_rule : mg "_read_rule" = some (.ref f__read_rule)
  f_Book_read : Addr
  fd_Book_read : FuncData
  F_Book_read : Fun K "read" "Book.read" s_Book_read f_Book_read fd_Book_read
  b_Book_read : Binds K fd_Book_read P_Book_read []
  p_Book_read : Addr
  cr_Book_read : ClX.CRead K c_Book (.type "type")
  M_Book_read : ClX.CMet K c_Book (.type "type") "read" p_Book_read f_Book_read
  f__law_pool : Addr
  fd__law_pool : FuncData
  F__law_pool : Fun K "_law_pool" "_law_pool" s__law_pool f__law_pool fd__law_pool
  b__law_pool : Binds K fd__law_pool P__law_pool []
  m__law_pool : mg "_law_pool" = some (.ref f__law_pool)
  f__law_pick : Addr
  fd__law_pick : FuncData
  F__law_pick : Fun K "_law_pick" "_law_pick" s__law_pick f__law_pick fd__law_pick
  b__law_pick : Binds K fd__law_pick P__law_pick []
  m__law_pick : mg "_law_pick" = some (.ref f__law_pick)
  f__law_alphabet : Addr
  fd__law_alphabet : FuncData
  F__law_alphabet : Fun K "_law_alphabet" "_law_alphabet" s__law_alphabet f__law_alphabet fd__law_alphabet
  b__law_alphabet : Binds K fd__law_alphabet P__law_alphabet []
  m__law_alphabet : mg "_law_alphabet" = some (.ref f__law_alphabet)
  f__law_word_of : Addr
  fd__law_word_of : FuncData
  F__law_word_of : Fun K "_law_word_of" "_law_word_of" s__law_word_of f__law_word_of fd__law_word_of
  b__law_word_of : Binds K fd__law_word_of P__law_word_of []
  m__law_word_of : mg "_law_word_of" = some (.ref f__law_word_of)
  f__law_is_int : Addr
  fd__law_is_int : FuncData
  F__law_is_int : Fun K "_law_is_int" "_law_is_int" s__law_is_int f__law_is_int fd__law_is_int
  b__law_is_int : Binds K fd__law_is_int P__law_is_int []
  m__law_is_int : mg "_law_is_int" = some (.ref f__law_is_int)
  f__law_odd_sign : Addr
  fd__law_odd_sign : FuncData
  F__law_odd_sign : Fun K "_law_odd_sign" "_law_odd_sign" s__law_odd_sign f__law_odd_sign fd__law_odd_sign
  b__law_odd_sign : Binds K fd__law_odd_sign P__law_odd_sign []
  m__law_odd_sign : mg "_law_odd_sign" = some (.ref f__law_odd_sign)
  f__law_first_odd : Addr
  fd__law_first_odd : FuncData
  F__law_first_odd : Fun K "_law_first_odd" "_law_first_odd" s__law_first_odd f__law_first_odd fd__law_first_odd
  b__law_first_odd : Binds K fd__law_first_odd P__law_first_odd []
  m__law_first_odd : mg "_law_first_odd" = some (.ref f__law_first_odd)
  f__law_is_text : Addr
  fd__law_is_text : FuncData
  F__law_is_text : Fun K "_law_is_text" "_law_is_text" s__law_is_text f__law_is_text fd__law_is_text
  b__law_is_text : Binds K fd__law_is_text P__law_is_text []
  m__law_is_text : mg "_law_is_text" = some (.ref f__law_is_text)
  f__law_due_of : Addr
  fd__law_due_of : FuncData
  F__law_due_of : Fun K "_law_due_of" "_law_due_of" s__law_due_of f__law_due_of fd__law_due_of
  b__law_due_of : Binds K fd__law_due_of P__law_due_of []
  m__law_due_of : mg "_law_due_of" = some (.ref f__law_due_of)
  f__law_try_make : Addr
  fd__law_try_make : FuncData
  F__law_try_make : Fun K "_law_try_make" "_law_try_make" s__law_try_make f__law_try_make fd__law_try_make
  b__law_try_make : Binds K fd__law_try_make P__law_try_make []
  m__law_try_make : mg "_law_try_make" = some (.ref f__law_try_make)
  f__law_same : Addr
  fd__law_same : FuncData
  F__law_same : Fun K "_law_same" "_law_same" s__law_same f__law_same fd__law_same
  b__law_same : Binds K fd__law_same P__law_same []
  m__law_same : mg "_law_same" = some (.ref f__law_same)
  f__law_first_bad : Addr
  fd__law_first_bad : FuncData
  F__law_first_bad : Fun K "_law_first_bad" "_law_first_bad" s__law_first_bad f__law_first_bad fd__law_first_bad
  b__law_first_bad : Binds K fd__law_first_bad P__law_first_bad []
  m__law_first_bad : mg "_law_first_bad" = some (.ref f__law_first_bad)
  f__law_change : Addr
  fd__law_change : FuncData
  F__law_change : Fun K "_law_change" "_law_change" s__law_change f__law_change fd__law_change
  b__law_change : Binds K fd__law_change P__law_change []
  m__law_change : mg "_law_change" = some (.ref f__law_change)
  f_law : Addr
  fd_law : FuncData
  F_law : Fun K "law" "law" s_law f_law fd_law
  b_law : Binds K fd_law P_law []
  m_law : mg "law" = some (.ref f_law)
theorem bd_Row_init_1 {K : PySem.W.Frag} {mg : Str → Option Value} (T : Txt K mg) : ∃ ds, Vals (([.str "", .non] : List V).drop 0) ds ∧ Binds K T.fd_Row_init P_Row_init ds :=
  T.D_Row_init.binds1 (ps := P_Row_init) 1 0 (by simp) rfl fun _ _ _ _ _ _ _ us its hu hi => match us, its, hu, hi with | [_], [_, _], _, _ => ⟨_, rfl, rfl⟩
theorem bd_Row_init_2 {K : PySem.W.Frag} {mg : Str → Option Value} (T : Txt K mg) : ∃ ds, Vals (([.str "", .non] : List V).drop 1) ds ∧ Binds K T.fd_Row_init P_Row_init ds :=
  T.D_Row_init.binds1 (ps := P_Row_init) 2 1 (by simp) rfl fun _ _ _ _ _ _ _ us its hu hi => match us, its, hu, hi with | [_, _], [_, _], _, _ => ⟨_, rfl, rfl⟩
theorem bd_Row_init_3 {K : PySem.W.Frag} {mg : Str → Option Value} (T : Txt K mg) : ∃ ds, Vals (([.str "", .non] : List V).drop 2) ds ∧ Binds K T.fd_Row_init P_Row_init ds :=
  T.D_Row_init.binds1 (ps := P_Row_init) 3 2 (by simp) rfl fun _ _ _ _ _ _ _ us its hu hi => match us, its, hu, hi with | [_, _, _], [_, _], _, _ => ⟨_, rfl, rfl⟩
theorem bd_Rule_init_2 {K : PySem.W.Frag} {mg : Str → Option Value} (T : Txt K mg) : ∃ ds, Vals (([.str ""] : List V).drop 0) ds ∧ Binds K T.fd_Rule_init P_Rule_init ds :=
  T.D_Rule_init.binds1 (ps := P_Rule_init) 2 0 (by simp) rfl fun _ _ _ _ _ _ _ us its hu hi => match us, its, hu, hi with | [_, _], [_], _, _ => ⟨_, rfl, rfl⟩
theorem bd_Rule_init_3 {K : PySem.W.Frag} {mg : Str → Option Value} (T : Txt K mg) : ∃ ds, Vals (([.str ""] : List V).drop 1) ds ∧ Binds K T.fd_Rule_init P_Rule_init ds :=
  T.D_Rule_init.binds1 (ps := P_Rule_init) 3 1 (by simp) rfl fun _ _ _ _ _ _ _ us its hu hi => match us, its, hu, hi with | [_, _, _], [_], _, _ => ⟨_, rfl, rfl⟩
theorem ok_BadSign_init {w : World} {K : PySem.W.Frag} {mg : Str → Option Value} {base : Heap} (T : Txt K mg) : FnOk prg w K mg base (L2.CX prg w) 1 T.f_BadSign_init T.fd_BadSign_init ["self", "at"] (spExI T.c_BadSign "at") :=
  exinit_ok T.o_BadSign T.F_BadSign_init rfl rfl rfl rfl rfl rfl rfl rfl rfl rfl (by decide +kernel) (by decide +kernel) (by decide +kernel) (by decide) (by decide) (msg_ok2 rfl (by decide) (by decide) (by decide +kernel)) (fun _ _ _ _ => rfl) (fun _ _ _ _ => rfl)
theorem ok_BadHeight_init {w : World} {K : PySem.W.Frag} {mg : Str → Option Value} {base : Heap} (T : Txt K mg) : FnOk prg w K mg base (L2.CX prg w) 1 T.f_BadHeight_init T.fd_BadHeight_init ["self", "height"] (spExI T.c_BadHeight "height") :=
  exinit_ok T.o_BadHeight T.F_BadHeight_init rfl rfl rfl rfl rfl rfl rfl rfl rfl rfl (by decide +kernel) (by decide +kernel) (by decide +kernel) (by decide) (by decide) (msg_ok3 rfl (by decide) (by decide) (by decide +kernel) (by decide +kernel)) (fun _ _ _ _ => rfl) (fun _ _ _ _ => rfl)
theorem ok_BadLine_init {w : World} {K : PySem.W.Frag} {mg : Str → Option Value} {base : Heap} (T : Txt K mg) : FnOk prg w K mg base (L2.CX prg w) 1 T.f_BadLine_init T.fd_BadLine_init ["self", "line"] (spExI T.c_BadLine "line") :=
  exinit_ok T.o_BadLine T.F_BadLine_init rfl rfl rfl rfl rfl rfl rfl rfl rfl rfl (by decide +kernel) (by decide +kernel) (by decide +kernel) (by decide) (by decide) (msg_ok3 rfl (by decide) (by decide) (by decide +kernel) (by decide +kernel)) (fun _ _ _ _ => rfl) (fun _ _ _ _ => rfl)

end Rz
namespace Rz
open PySem PySem.Spec PyProof.Rows L2
/-- nothing for a text; else BadSign with the first place -/
def sp_check_text (cB : Addr) : Sp := fun vs H Q E => ∃ z : Str, vs = [.str z] ∧ z.length ≤ 1000000 ∧ (fo z = none → ∀ H', Same H H' → Q .non H') ∧
  (∀ i, fo z = some i → ∀ H' d, Same H H' → H d = none → H' d = some (.xd [("at", .int (i : Nat))]) → E (.ref cB) (some d) H')
section
variable {w : World} {K : PySem.W.Frag} {mg : Str → Option Value} {base : Heap}
theorem sc_check_text : FnScope N_check_text P_check_text (defScope s_check_text) := ⟨rfl, rfl, rfl, by decide +kernel, rfl, by decide +kernel, by decide +kernel⟩
theorem ok_check_text (T : Txt K mg) : FnOk prg w K mg base (L2.CX prg w) 3 T.f_check_text T.fd_check_text P_check_text (sp_check_text T.c_BadSign) := by
  refine T.F_check_text.okX sc_check_text (fun vs H Q E h => ?_) (fun cdv A outer s H vs Q E hr h => ?_)
  · obtain ⟨z, rfl, _⟩ := h
    rfl
  obtain ⟨z, rfl, hz, kg, kb⟩ := h
  have nd := sc_check_text.nd
  obtain ⟨tS, k_SIGNS⟩ := T.k_SIGNS
  have tk : Takes (cxOf (L2.CX prg w) prg w K mg base N_check_text "check_text" (defScope s_check_text) T.f_check_text cdv A outer s H E) (fun cls d _ H' => E cls d H') := takes_of rfl rfl rfl rfl
  refine ⟨_, (pss_one (ps_for (passes_of rfl) rfl (pi_enumS (by rfl) T.n_enumerate (pa_cons (pv 0) pa_nil)) (pg_tup rfl (pgs_cons (pg_name (i := 1) nd rfl (Or.inl rfl)) (pgs_cons (pg_name (i := 2) nd rfl (Or.inl rfl)) pgs_nil)))
      (pss_one (ps_if (pt_cmpR op_notIn_sign (pv 2) (pe_glob (v := .str abc) (by rfl) k_SIGNS ⟨_, rfl⟩) rfl) (pss_one (ps_raise rfl tk (pmk_oex T.o_BadSign T.i_BadSign T.t_BadSign (ok_BadSign_init T) (hr.mono (by decide)) T.b_BadSign_init .nil passN (by rfl) T.m_BadSign (pa_cons (pv 1) pa_nil)))) pss_nil)))), ?_⟩
  refine ⟨_, rfl, z, rfl, for_it walk_enumS (fun i σ H' => ∃ v1 v2 : Option V, σ = [some (.str z), v1, v2] ∧ Same H H' ∧ ∀ (j c : Nat), j < i → z.cps.toList[j]? = some c → oddC c = false)
    ⟨_, _, rfl, Same.refl H, fun j c hj => absurd hj (Nat.not_lt_zero j)⟩ (fun _ _ _ _ _ => True.intro) ?_ ?_⟩
  · rintro i x σ H1 H2 hi ⟨v1, v2, rfl, R, hb⟩ ⟨Tp, c, rfl, hT, rfl, hc⟩
    have R2 : Same H (upd H1 Tp (.tup [.int (i : Nat), .str ⟨#[c]⟩])) := Rz.Same.new R hT
    refine ⟨Tp, _, rfl, SqT.of upd_same, rfl, _, _, rfl, _, _, rfl, rfl, ?_⟩
    refine ⟨_, rfl, c, abc, rfl, rfl, _, rfl, ?_⟩
    refine ite2 (fun ho => ?_) (fun ho => ?_)
    · have hfo := fo_some hc ho hb
      have hl := fo_lt hfo
      exact ⟨_, rfl, by show 1 ≤ 1000; decide, raise_fld (log_nat (by omega)) fun H2 d S2 hd e => kb i hfo H2 d (R2.trans S2) (R2.free hd) e⟩
    · refine ⟨_, _, rfl, R2, fun j c2 hj h2 => ?_⟩
      by_cases e : j < i
      · exact hb j c2 e h2
      · have e3 : j = i := by omega
        subst e3
        rw [hc] at h2
        cases h2
        simpa [oddC] using ho
  · rintro σ H1 ⟨v1, v2, rfl, R, hb⟩
    exact kg (fo_none fun j c hj => hb j c (by
      have := (List.getElem?_eq_some_iff.mp hj).1
      simpa using this) hj) H1 R
end
end Rz

namespace Rz
open PySem PySem.Spec PyProof.Rows L2
/-- a text, or its bytes -/
def TxA (v : V) (z : Str) : Prop := v = .str z ∨ (v = .byt (PySem.W.KSb.enc z) ∧ PySem.W.KSb.Asc z)
def sp_decoded : Sp := fun vs H Q _ => ∃ (v : V) (z : Str), vs = [v] ∧ TxA v z ∧ z.length ≤ 1000000 ∧ Q (.str z) H
section
variable {w : World} {K : PySem.W.Frag} {mg : Str → Option Value} {base : Heap}
theorem sc_decoded : FnScope N_decoded P_decoded (defScope s_decoded) := ⟨rfl, rfl, rfl, by decide +kernel, rfl, by decide +kernel, by decide +kernel⟩
theorem ok_decoded (T : Txt K mg) : FnOk prg w K mg base (L2.CX prg w) 1 T.f_decoded T.fd_decoded P_decoded sp_decoded := by
  refine Rz.Fun.okN T.F_decoded sc_decoded (fun vs H Q E h => ?_) (fun cdv A outer s H vs Q E hr h => ?_)
  · obtain ⟨v, z, rfl, _⟩ := h
    rfl
  obtain ⟨v, z, rfl, hv, hz, k⟩ := h
  refine ⟨_, (pss_cons (ps_if (pt_val (pe_callB call_isi (by rfl) T.n_isinstance (by decide +kernel) (pa_cons (pv 0) (pa_cons (pe_bltn (v := .ty "bytes") (by rfl) T.n_bytes (by decide +kernel) rfl) pa_nil)))) (pss_one (ps_ret (pe_decA (pv 0)))) pss_nil)
    (pss_one (ps_ret (pv 0)))), ?_⟩
  rcases hv with rfl | ⟨rfl, ha⟩
  · refine ⟨_, rfl, _, _, .type "str", .type "bytes", false, rfl, .ty _, .base (.str z), kit_ty (by decide +kernel), false, rfl, ?_⟩
    exact iteF ⟨_, rfl, k⟩
  · refine ⟨_, rfl, _, _, .type "bytes", .type "bytes", true, rfl, .ty _, .byt _, ?_, true, rfl, ?_⟩
    · unfold PySem.W.kitOne
      rw [if_pos (beq_self_eq_true _)]
    · exact iteT ⟨_, rfl, z, rfl, ha, by omega, k⟩
end
end Rz

namespace Rz
open PySem PySem.Spec PyProof.Rows L2
/-- nothing for a height from 0 to g; else BadHeight with it -/
def sp_check_height (cH : Addr) : Sp := fun vs H Q E => ∃ h g : Int, vs = [.int h, .int g] ∧ h.natAbs < 2 ^ 64 ∧ (0 ≤ h ∧ h ≤ g → Q .non H) ∧
  (¬ (0 ≤ h ∧ h ≤ g) → ∀ H' d, Same H H' → H d = none → H' d = some (.xd [("height", .int h)]) → E (.ref cH) (some d) H')
section
variable {w : World} {K : PySem.W.Frag} {mg : Str → Option Value} {base : Heap}
theorem sc_check_height : FnScope N_check_height P_check_height (defScope s_check_height) := ⟨rfl, rfl, rfl, by decide +kernel, rfl, by decide +kernel, by decide +kernel⟩
theorem ok_check_height (T : Txt K mg) : FnOk prg w K mg base (L2.CX prg w) 3 T.f_check_height T.fd_check_height P_check_height (sp_check_height T.c_BadHeight) := by
  refine T.F_check_height.okX sc_check_height (fun vs H Q E h => ?_) (fun cdv A outer s H vs Q E hr h => ?_)
  · obtain ⟨h, g, rfl, _⟩ := h
    rfl
  obtain ⟨h, g, rfl, hs, kg, kb⟩ := h
  have tk : Takes (cxOf (L2.CX prg w) prg w K mg base N_check_height "check_height" (defScope s_check_height) T.f_check_height cdv A outer s H E) (fun cls d _ H' => E cls d H') := takes_of rfl rfl rfl rfl
  refine ⟨_, (pss_one (ps_if (pt_not (pt_chain op_le op_le pe_int (pv 0) (pv 1))) (pss_one (ps_raise rfl tk (pmk_oex T.o_BadHeight T.i_BadHeight T.t_BadHeight (ok_BadHeight_init T) (hr.mono (by decide)) T.b_BadHeight_init .nil passN (by rfl) T.m_BadHeight (pa_cons (pv 0) pa_nil)))) pss_nil)), ?_⟩
  have bad : ¬ (0 ≤ h ∧ h ≤ g) → _ := fun hb => raise_fld (C := T.c_BadHeight) (fld := "height") (n := h) (H1 := H) (Q := E) (log_small hs (by decide)) fun H2 d S2 hd e => kb hb H2 d S2 hd e
  refine ⟨_, rfl, _, _, rfl, rfl, decide (0 ≤ h), rfl, ?_⟩
  by_cases h0 : 0 ≤ h
  · rw [decide_eq_true h0]
    refine iteT ⟨_, rfl, _, _, rfl, rfl, decide (h ≤ g), rfl, ?_⟩
    by_cases h1 : h ≤ g
    · rw [decide_eq_true h1]
      exact iteF (kg ⟨h0, h1⟩)
    · rw [decide_eq_false h1]
      exact iteT ⟨_, rfl, by show 1 ≤ 1000; decide, bad fun z => h1 z.2⟩
  · rw [decide_eq_false h0]
    refine iteF ⟨false, rfl, ?_⟩
    exact iteT ⟨_, rfl, by show 1 ≤ 1000; decide, bad fun z => h0 z.1⟩
end
end Rz

namespace Rz
open PySem PySem.Spec PyProof.Rows L2
/-- the heights that were passed, or none -/
def HtsArg (H : Hp) (z : Str) (ns : List Int) (hv : V) : Prop := (hv = .non ∧ ns = List.replicate z.length 0) ∨ ∃ l, hv = .ref l ∧ H l = some (.lst (ns.map V.int)) ∧ ns.length ≤ 1000000 ∧ ∀ n ∈ ns, n.natAbs < 2 ^ 64
def sp_Row_init (cB cU cH cR : Addr) : Sp := fun vs H Q E => ∃ (p dx : Addr) (tv : V) (z : Str) (hv : V) (ns : List Int), vs = [.ref p, tv, hv] ∧ TxA tv z ∧ z.length ≤ 1000000 ∧ H p = some (.ins cR dx []) ∧ HtsArg H z ns hv ∧
  (match rr z ns with
    | .sign i => ∀ H' d, But [p] H H' → H d = none → H' d = some (.xd [("at", .int (i : Nat))]) → E (.ref cB) (some d) H'
    | .uneven => ∀ H', But [p] H H' → E (.ref cU) none H'
    | .height n => ∀ H' d, But [p] H H' → H d = none → H' d = some (.xd [("height", .int n)]) → E (.ref cH) (some d) H'
    | .row => ∀ H' l, But [p] H H' → H l = none → RAt cR H' p l (z.cps.toList.zip ns) → Q .non H')
section
variable {w : World} {K : PySem.W.Frag} {mg : Str → Option Value} {base : Heap}
theorem sc_Row_init : FnScope N_Row_init P_Row_init (defScope s_Row_init) := ⟨rfl, rfl, rfl, by decide +kernel, rfl, by decide +kernel, by decide +kernel⟩
theorem ok_Row_init (T : Txt K mg) : FnOk prg w K mg base (L2.CX prg w) 4 T.f_Row_init T.fd_Row_init P_Row_init (sp_Row_init T.c_BadSign T.c_Uneven T.c_BadHeight T.c_Row) := by
  refine T.D_Row_init.ok sc_Row_init (fun vs H Q E h => ?_) (fun cdv A outer s H vs Q E hr h => ?_)
  · obtain ⟨p, dx, tv, z, hv, ns, rfl, _⟩ := h
    rfl
  obtain ⟨p, dx, tv, z, hv, ns, rfl, htv, hz, hp, hA, k⟩ := h
  have nd := sc_Row_init.nd
  obtain ⟨tG, k_GREATEST_HEIGHT⟩ := T.k_GREATEST_HEIGHT
  have tk : Takes (cxOf (L2.CX prg w) prg w K mg base N_Row_init "Row.__init__" (defScope s_Row_init) T.f_Row_init cdv A outer s H E) (fun cls d _ H' => E cls d H') := takes_of rfl rfl rfl rfl
  refine ⟨_, (pss_cons (ps_set (i := 3) nd rfl (Or.inl rfl) (pe_fn (ok_decoded T) (hr.mono (by decide)) (by rfl) T.m_decoded T.F_decoded.kp T.b_decoded .nil (passAt tk) (pa_cons (pv 1) pa_nil)))
    (pss_cons (ps_expr (pe_fn (ok_check_text T) (hr.mono (by decide)) (by rfl) T.m_check_text T.F_check_text.kp T.b_check_text .nil (passAt tk) (pa_cons (pv 3) pa_nil)))
    (C8.pss_cut (ps_if (pt_cmp (pc_isN (pv 2)) rfl) (pss_one (ps_set (i := 2) nd rfl (Or.inl rfl) (pe_op op_rep (pe_lst (pa_cons pe_int pa_nil)) (pe_callB call_len_str (by rfl) T.n_len PySem.boot_len (pa_cons (pv 3) pa_nil))))) pss_nil)
    (pss_cons (ps_if (pt_cmpR op_ne (pe_callB call_len_seq (by rfl) T.n_len PySem.boot_len (pa_cons (pv 2) pa_nil)) (pe_callB call_len_str (by rfl) T.n_len PySem.boot_len (pa_cons (pv 3) pa_nil)) (nomark _)) (pss_one (ps_raise rfl tk (pmk_own PySem.F.excBase_ValueError T.o_Uneven T.m_Uneven T.kp_Uneven (raises_own T.r_Uneven T.t_Uneven) rfl))) pss_nil)
    (pss_cons (ps_for (passes_of rfl) rfl (pi_list (pv 2)) (pg_name (i := 4) nd rfl (Or.inl rfl))
      (pss_one (ps_expr (pe_fn (ok_check_height T) (hr.mono (by decide)) (by rfl) T.m_check_height T.F_check_height.kp T.b_check_height .nil (passAt tk) (pa_cons (pv 4) (pa_cons (pe_glob (v := .int 9) (by rfl) k_GREATEST_HEIGHT ⟨_, rfl⟩) pa_nil))))))
    (pss_one (ps_fld (pv 0) (pe_listZip (by rfl) (pa_cons (pv 3) (pa_cons (pv 2) pa_nil)) (by rfl) T.n_list (by decide +kernel) (by rfl) T.n_zip) rfl))))))), ?_⟩
  have hzl : z.length ≤ sizeLine := by rw [sizeLine_eq]; omega
  refine ⟨_, rfl, tv, z, rfl, htv, hz, ?_⟩
  refine ⟨_, rfl, z, rfl, hz, fun f1 H1 S1 => ?_, fun i f1 H1 d S1 hd e => ?_⟩
  rotate_left
  · unfold rr at k
    rw [f1] at k
    exact k H1 d (But.of S1) hd e
  have k2 : (match (if ns.length ≠ z.length then RR.uneven else match ns.find? badH with
      | some n => RR.height n
      | none => RR.row) with
    | .sign i => ∀ H' d, But [p] H H' → H d = none → H' d = some (.xd [("at", .int (i : Nat))]) → E (.ref T.c_BadSign) (some d) H'
    | .uneven => ∀ H', But [p] H H' → E (.ref T.c_Uneven) none H'
    | .height n => ∀ H' d, But [p] H H' → H d = none → H' d = some (.xd [("height", .int n)]) → E (.ref T.c_BadHeight) (some d) H'
    | .row => ∀ H' l, But [p] H H' → H l = none → RAt T.c_Row H' p l (z.cps.toList.zip ns) → Q .non H') := by
    unfold rr at k
    rw [f1] at k
    exact k
  clear k
  refine ⟨fun σ H' => ∃ l : Addr, σ = [some (.ref p), some tv, some (.ref l), some (.str z), none] ∧ Same H H' ∧ H' l = some (.lst (ns.map V.int)) ∧ ns.length ≤ 1000000 ∧ ∀ n ∈ ns, n.natAbs < 2 ^ 64, ?_, ?_⟩
  · rcases hA with ⟨rfl, rfl⟩ | ⟨l, rfl, hl, hn, hb⟩
    · refine ⟨_, rfl, _, rfl, iteT ?_⟩
      refine ⟨by decide, fun q hq => ⟨_, rfl, z, rfl, hzl, q, _, _, rfl, rfl, upd_same, by omega, by omega, by simpa using hzl, fun l hl => ?_⟩⟩
      have S2 := Rz.Same.new (o := .lst [.int 0]) S1 hq
      refine ⟨l, rfl, Rz.Same.new S2 hl, ?_, by rw [List.length_replicate]; exact hz, fun n hn => ?_⟩
      · rw [upd_same, Int.toNat_natCast]
        congr 2
        generalize z.length = m
        induction m with
        | zero => rfl
        | succ m ih => rw [List.replicate_succ, List.flatten_cons, ih]; rfl
      · rw [(List.mem_replicate.mp hn).2]
        decide
    · refine ⟨_, rfl, _, rfl, iteF ?_⟩
      exact ⟨l, rfl, S1, S1 _ _ hl, hn, hb⟩
  rintro σ H2 ⟨l, rfl, S2, hl, hn, hb⟩
  refine ⟨_, rfl, l, _, rfl, .inl (SqL.of hl), _, rfl, z, rfl, hzl, rfl, _, rfl, ?_⟩
  rw [List.length_map]
  refine ite2 (fun hd => ?_) (fun hd => ?_)
  · have hne : ns.length ≠ z.length := fun e => by
      rw [e] at hd
      simp at hd
    rw [if_pos hne] at k2
    exact k2 H2 (But.of S2)
  have heq : ns.length = z.length := by
    have h2 : (ns.length : Int) = z.length := by
      have := hd
      simpa using this
    omega
  rw [if_neg (by simp [heq])] at k2
  refine ⟨_, rfl, l, rfl, ⟨_, SqL.of hl⟩, for_list (K := K) (a := l) (xs := ns.map V.int) (fun i σ H' => ∃ v4 : Option V, σ = [some (.ref p), some tv, some (.ref l), some (.str z), v4] ∧ H' = H2 ∧ ∀ j n, j < i → ns[j]? = some n → badH n = false)
    ⟨none, rfl, rfl, fun j n hj => absurd hj (Nat.not_lt_zero j)⟩ (fun i σ H' _ ⟨_, _, e, _⟩ => by rw [e]; exact SqL.of hl) ?_ ?_⟩
  · rintro i y σ H' hi ⟨v4, rfl, rfl, hg⟩
    obtain ⟨n, hn2, rfl⟩ := mapi_get hi
    refine ⟨_, rfl, n, 9, rfl, hb n (List.mem_of_getElem? hn2), fun ok => ?_, fun bad H3 d S3 hd3 e3 => ?_⟩
    · refine ⟨_, rfl, rfl, fun j m hj hm => ?_⟩
      by_cases e : j < i
      · exact hg j m e hm
      · have e2 : j = i := by omega
        subst e2
        rw [hn2] at hm
        cases hm
        unfold badH
        simp
        omega
    · have hf : ns.find? badH = some n := by
        rw [List.find?_eq_some_iff_getElem]
        refine ⟨by unfold badH; simp; omega, i, (List.getElem?_eq_some_iff.mp hn2).1, (List.getElem?_eq_some_iff.mp hn2).2, fun j hj => ?_⟩
        have := hg j _ hj (List.getElem?_eq_getElem (Nat.lt_trans hj (List.getElem?_eq_some_iff.mp hn2).1))
        simp [this]
      rw [hf] at k2
      exact k2 H3 d (But.of (S2.trans S3)) (S2.free hd3) e3
  · rintro σ H' ⟨v4, rfl, rfl, hg⟩
    have hf : ns.find? badH = none := by
      rw [List.find?_eq_none]
      intro n hn2
      obtain ⟨j, hj, e⟩ := List.getElem_of_mem hn2
      have := hg j n (by simpa using hj) (by rw [List.getElem?_eq_getElem hj, e])
      simp [this]
    rw [hf] at k2
    refine ⟨_, rfl, _, rfl, z, l, _, rfl, SqL.of hl, by rw [List.length_map]; exact heq.symm, hzl, fun H3 q ts S3 hq hts nq eq hP => ?_⟩
    have hp3 := (S2.trans S3) _ _ hp
    refine ⟨_, rfl, p, _, dx, _, rfl, hp3, T.cl_Row, T.na_Row__pairs, by show 0 < 1000; decide, ?_⟩
    have S23 := S2.trans S3
    refine k2 _ q ((But.of S23).upd (.inl (by simp))) (S2.free hq) ⟨dx, upd_same, ts, ?_, ?_⟩
    · rw [upd_ne (fun z => by rw [z, hp3] at eq; cases eq)]
      exact eq
    · exact (zkv_pairs hP).keep (Tups.upd (fun _ _ e => e) fun xs e => by rw [hp3] at e; cases e)
end
end Rz

namespace Rz
open PySem PySem.Spec PyProof.Rows L2
def sp_Row_len (cR : Addr) : Sp := fun vs H Q _ => ∃ (p l : Addr) (ps : List Pr), vs = [.ref p] ∧ RAt cR H p l ps ∧ Q (.int (ps.length : Nat)) H
section
variable {w : World} {K : PySem.W.Frag} {mg : Str → Option Value} {base : Heap}
theorem sc_Row_len : FnScope N_Row_len P_Row_len (defScope s_Row_len) := ⟨rfl, rfl, rfl, by decide +kernel, rfl, by decide +kernel, by decide +kernel⟩
theorem ok_Row_len (T : Txt K mg) : FnOk prg w K mg base (L2.CX prg w) 1 T.f_Row_len T.fd_Row_len P_Row_len (sp_Row_len T.c_Row) := by
  refine Rz.Fun.okN T.F_Row_len sc_Row_len (fun vs H Q E h => ?_) (fun cdv A outer s H vs Q E hr h => ?_)
  · obtain ⟨p, l, ps, rfl, _⟩ := h
    rfl
  obtain ⟨p, l, ps, rfl, ⟨dx, hp, ts, hl, hP⟩, k⟩ := h
  refine ⟨_, (pss_one (ps_ret (pe_callB call_len_seq (by rfl) T.n_len PySem.boot_len (pa_cons (pe_fld (pv 0) rfl) pa_nil)))), ?_⟩
  refine ⟨_, rfl, p, _, dx, _, _, rfl, hp, T.cl_Row, T.na_Row__pairs, rfl, l, _, rfl, .inl (SqL.of hl), ?_⟩
  rw [List.length_map, hP.length]
  exact k
end
end Rz

namespace Rz
open PySem PySem.Spec PyProof.Rows L2
/-- what becomes of Rule(l, r) -/
inductive RD | sign (i : Nat) | bad | good
def rd (l r : Str) : RD := match fo l with
  | some i => .sign i
  | none => match fo r with
    | some i => .sign i
    | none => if l.length < 1 ∨ l.length > 4 ∨ r.length > 4 then .bad else .good
def ruleF (l r : Str) : List (Str × V) := putF "right" (.str r) (putF "left" (.str l) [])
def sp_Rule_init (cB cR cC : Addr) : Sp := fun vs H Q E => ∃ (p dx : Addr) (l r : Str), vs = [.ref p, .str l, .str r] ∧ l.length ≤ 1000000 ∧ r.length ≤ 1000000 ∧ H p = some (.ins cC dx []) ∧
  (match rd l r with
    | .sign i => ∀ H' d, But [p] H H' → H d = none → H' d = some (.xd [("at", .int (i : Nat))]) → E (.ref cB) (some d) H'
    | .bad => ∀ H', But [p] H H' → E (.ref cR) none H'
    | .good => ∀ H', But [p] H H' → H' p = some (.ins cC dx (ruleF l r)) → Q .non H')
section
variable {w : World} {K : PySem.W.Frag} {mg : Str → Option Value} {base : Heap}
theorem sc_Rule_init : FnScope N_Rule_init P_Rule_init (defScope s_Rule_init) := ⟨rfl, rfl, rfl, by decide +kernel, rfl, by decide +kernel, by decide +kernel⟩
theorem ok_Rule_init (T : Txt K mg) : FnOk prg w K mg base (L2.CX prg w) 4 T.f_Rule_init T.fd_Rule_init P_Rule_init (sp_Rule_init T.c_BadSign T.c_BadRule T.c_Rule) := by
  refine T.D_Rule_init.ok sc_Rule_init (fun vs H Q E h => ?_) (fun cdv A outer s H vs Q E hr h => ?_)
  · obtain ⟨p, dx, l, r, rfl, _⟩ := h
    rfl
  obtain ⟨p, dx, l, r, rfl, hl, hr4, hp, k⟩ := h
  have nd := sc_Rule_init.nd
  obtain ⟨tM, k_MOST_SIGNS⟩ := T.k_MOST_SIGNS
  have tk : Takes (cxOf (L2.CX prg w) prg w K mg base N_Rule_init "Rule.__init__" (defScope s_Rule_init) T.f_Rule_init cdv A outer s H E) (fun cls d _ H' => E cls d H') := takes_of rfl rfl rfl rfl
  refine ⟨_, (pss_cons (ps_expr (pe_fn (ok_check_text T) (hr.mono (by decide)) (by rfl) T.m_check_text T.F_check_text.kp T.b_check_text .nil (passAt tk) (pa_cons (pv 1) pa_nil)))
    (pss_cons (ps_expr (pe_fn (ok_check_text T) (hr.mono (by decide)) (by rfl) T.m_check_text T.F_check_text.kp T.b_check_text .nil (passAt tk) (pa_cons (pv 2) pa_nil)))
    (pss_cons (ps_if (PW.pt (pw_or (pt_not (pt_truth (pv 1) (by intro _; rfl))) (pw_or (pt_cmpR op_gt (pe_callB call_len_str (by rfl) T.n_len PySem.boot_len (pa_cons (pv 1) pa_nil)) (pe_glob (v := .int 4) (by rfl) k_MOST_SIGNS ⟨_, rfl⟩) (nomark _)) (pw_or1 (pt_cmpR op_gt (pe_callB call_len_str (by rfl) T.n_len PySem.boot_len (pa_cons (pv 2) pa_nil)) (pe_glob (v := .int 4) (by rfl) k_MOST_SIGNS ⟨_, rfl⟩) (nomark _)))))) (pss_one (ps_raise rfl tk (pmk_own PySem.F.excBase_ValueError T.o_BadRule T.m_BadRule T.kp_BadRule (raises_own T.r_BadRule T.t_BadRule) rfl))) pss_nil)
    (pss_cons (ps_fld (pv 0) (pv 1) rfl)
    (pss_one (ps_fld (pv 0) (pv 2) rfl)))))), ?_⟩
  have keepP : ∀ {H' : Hp}, Same H H' → H' p = some (.ins T.c_Rule dx []) := fun S => S _ _ hp
  refine ⟨_, rfl, l, rfl, hl, fun f1 H1 S1 => ?_, fun i f1 H1 d S1 hd e => ?_⟩
  · refine ⟨_, rfl, r, rfl, hr4, fun f2 H2 S2 => ?_, fun j i H2 d S2 hd e => ?_⟩
    · have S3 := S1.trans S2
      have g := keepP S3
      have hll : l.length ≤ sizeLine := by rw [sizeLine_eq]; omega
      have hlr : r.length ≤ sizeLine := by rw [sizeLine_eq]; omega
      unfold rd at k
      rw [f1] at k
      dsimp only at k
      rw [f2] at k
      dsimp only at k
      have bad : (l.length < 1 ∨ l.length > 4 ∨ r.length > 4) → E (.ref T.c_BadRule) none H2 := fun h => by
        rw [if_pos h] at k
        exact k H2 (But.of S3)
      have good : ¬ (l.length < 1 ∨ l.length > 4 ∨ r.length > 4) → tSeq (sFld K (tVar 0) (tVar 1) "left") (sFld K (tVar 0) (tVar 2) "right") { nx := fun _ H' => Q .non H', rt := Q } [some (.ref p), some (.str l), some (.str r)] H2 := fun h => by
        rw [if_neg h] at k
        refine ⟨_, rfl, _, rfl, p, _, dx, _, rfl, g, T.cl_Rule, T.na_Rule_left, by show 0 < 1000; decide, ?_⟩
        refine ⟨_, rfl, _, rfl, p, _, dx, _, rfl, upd_same, T.cl_Rule, T.na_Rule_right, by show 1 < 1000; decide, ?_⟩
        exact k _ (((But.of S3).upd (.inl (by simp))).upd (.inl (by simp))) upd_same
      refine ⟨_, rfl, _, ⟨hll, rfl⟩, ?_⟩
      show if (!((l.length : Int) != 0)) = true then _ else _
      refine ite2 (fun h => iteT (bad (.inl (by
        have h2 : ((l.length : Int) != 0) = false := by simpa using h
        have h3 : (l.length : Int) = 0 := by simpa using h2
        omega)))) (fun h => ?_)
      have hl0 : ¬ l.length < 1 := fun z => h (by
        have e : l.length = 0 := by omega
        rw [e]; rfl)
      refine ⟨_, rfl, l, rfl, hll, _, _, rfl, rfl, _, rfl, ?_⟩
      refine ite2 (fun h => iteT (bad (.inr (.inl (by have := of_decide_eq_true h; omega))))) (fun h => ?_)
      have hl4 : ¬ l.length > 4 := fun z => h (decide_eq_true (by omega))
      refine ⟨_, rfl, r, rfl, hlr, _, _, rfl, rfl, _, rfl, ?_⟩
      refine ite2 (fun h => bad (.inr (.inr (by have := of_decide_eq_true h; omega)))) (fun h => ?_)
      have hr5 : ¬ r.length > 4 := fun z => h (decide_eq_true (by omega))
      exact good (by omega)
    · have S3 := S1.trans S2
      unfold rd at k
      rw [f1] at k
      dsimp only at k
      rw [i] at k
      exact k H2 d (But.of S3) (S1.free hd) e
  · unfold rd at k
    rw [f1] at k
    exact k H1 d (But.of S1) hd e
end
end Rz

namespace Rz
open PySem PySem.Spec PyProof.Rows L2
def ruleT (l r : Str) : Str := Str.empty ++ l ++ ":" ++ r
def sp_Rule_str (cC : Addr) : Sp := fun vs H Q _ => ∃ (p dx : Addr) (l r : Str), vs = [.ref p] ∧ l.length ≤ 1000000 ∧ r.length ≤ 1000000 ∧ H p = some (.ins cC dx (ruleF l r)) ∧ Q (.str (ruleT l r)) H
theorem ruleF_left (l r : Str) : (ruleF l r).lookup ("left" : Str) = some (.str l) := by
  unfold ruleF
  rw [lookup_putF, if_neg (by decide), lookup_putF, if_pos rfl]
theorem ruleF_right (l r : Str) : (ruleF l r).lookup ("right" : Str) = some (.str r) := by
  unfold ruleF
  rw [lookup_putF, if_pos rfl]
section
variable {w : World} {K : PySem.W.Frag} {mg : Str → Option Value} {base : Heap}
theorem sc_Rule_str : FnScope N_Rule_str P_Rule_str (defScope s_Rule_str) := ⟨rfl, rfl, rfl, by decide +kernel, rfl, by decide +kernel, by decide +kernel⟩
theorem ok_Rule_str (T : Txt K mg) : FnOk prg w K mg base (L2.CX prg w) 1 T.f_Rule_str T.fd_Rule_str P_Rule_str (sp_Rule_str T.c_Rule) := by
  refine Rz.Fun.okN T.F_Rule_str sc_Rule_str (fun vs H Q E h => ?_) (fun cdv A outer s H vs Q E hr h => ?_)
  · obtain ⟨p, dx, l, r, rfl, _⟩ := h
    rfl
  obtain ⟨p, dx, l, r, rfl, hl, hr1, hp, k⟩ := h
  refine ⟨_, (pss_one (ps_ret (pe_joined (.cons (pe_fmt (pe_fld (pv 0) rfl)) (.cons pe_str (.cons (pe_fmt (pe_fld (pv 0) rfl)) .nil)))))), ?_⟩
  refine ⟨_, rfl, p, _, dx, _, _, rfl, hp, T.cl_Rule, T.na_Rule_left, ruleF_left l r, .inl ⟨l, rfl, by rw [sizeLine_eq]; omega, l, rfl, ?_, ":", rfl, ?_, ?_⟩⟩
  · rw [Str.length_append, sizeLine_eq]
    show 0 + l.length ≤ _
    omega
  · rw [Str.length_append, Str.length_append, sizeLine_eq]
    show 0 + l.length + 1 ≤ _
    omega
  refine ⟨_, rfl, p, _, dx, _, _, rfl, hp, T.cl_Rule, T.na_Rule_right, ruleF_right l r, .inl ⟨r, rfl, by rw [sizeLine_eq]; omega, r, rfl, ?_, k⟩⟩
  rw [Str.length_append, Str.length_append, Str.length_append, sizeLine_eq]
  show 0 + l.length + 1 + r.length ≤ _
  omega
end
end Rz

namespace Rz
open PySem PySem.Spec PyProof.Rows L2
/-- a rule stands at q -/
def RuAt (cC : Addr) (H : Hp) (q : Addr) (l r : Str) : Prop := ∃ dq, H q = some (.ins cC dq (ruleF l r))
theorem RuAt.same {cC : Addr} {H H' : Hp} {q : Addr} {l r : Str} (h : RuAt cC H q l r) (S : Same H H') : RuAt cC H' q l r := let ⟨d, e⟩ := h; ⟨d, S _ _ e⟩
theorem RuAt.but {cC : Addr} {D : List Addr} {H H' : Hp} {q : Addr} {l r : Str} (h : RuAt cC H q l r) (B : But D H H') (n : q ∉ D) : RuAt cC H' q l r := let ⟨d, e⟩ := h; ⟨d, B.at e n⟩
end Rz

namespace Rz
open PySem PySem.Spec PyProof.Rows L2
/-- what Rule(l, r) asks for where it can be made -/
theorem rule_new {cB cR cC : Addr} {H : Hp} {Q : VK} {E : XK} {l r : Str} {vs dvs : List V} (e : vs ++ dvs = [.str l, .str r]) (hl : l.length ≤ 1000000) (hr : r.length ≤ 1000000) (hg : rd l r = .good)
    (k : ∀ (H' : Hp) (q : Addr), Same H H' → H q = none → RuAt cC H' q l r → Q (.ref q) H') : MkR cC (sp_Rule_init cB cR cC) dvs E vs H Q := by
  rw [mkR_eq, e]
  intro x dx hx hdx ndx
  refine ⟨x, dx, l, r, rfl, hl, hr, upd_same, ?_⟩
  rw [hg]
  intro H4 B e4
  refine ⟨rfl, k H4 x (fun b o e => ?_) hx ⟨dx, e4⟩⟩
  exact B b o (by have := ne_of_none e hx; simpa using this) (by rw [upd_ne (ne_of_none e hx), upd_ne (ne_of_none e hdx)]; exact e)
end Rz

namespace Rz
open PySem PySem.Spec PyProof.Rows L2
/-! ### the same defs, their errors without a context -/
section
variable {w : World} {K : PySem.W.Frag} {mg : Str → Option Value} {base : Heap}
theorem okN_check_text (T : Txt K mg) : FnOk prg w K mg base (L2N.CX prg w) 3 T.f_check_text T.fd_check_text P_check_text (sp_check_text T.c_BadSign) := by
  refine Rz.Fun.okXN T.F_check_text sc_check_text (fun vs H Q E h => ?_) (fun cdv A outer s H vs Q E hr h => ?_)
  · obtain ⟨z, rfl, _⟩ := h
    rfl
  obtain ⟨z, rfl, hz, kg, kb⟩ := h
  have nd := sc_check_text.nd
  obtain ⟨tS, k_SIGNS⟩ := T.k_SIGNS
  have tk : L2N.Takes (cxOf (L2N.CX prg w) prg w K mg base N_check_text "check_text" (defScope s_check_text) T.f_check_text cdv A outer s H E) (fun cls d _ H' => E cls d H')  := L2N.takes_of rfl rfl rfl rfl
  refine ⟨_, (pss_one (ps_for (passes_of rfl) rfl (pi_enumS (by rfl) T.n_enumerate (pa_cons (pv 0) pa_nil)) (pg_tup rfl (pgs_cons (pg_name (i := 1) nd rfl (Or.inl rfl)) (pgs_cons (pg_name (i := 2) nd rfl (Or.inl rfl)) pgs_nil)))
      (pss_one (ps_if (pt_cmpR op_notIn_sign (pv 2) (pe_glob (v := .str abc) (by rfl) k_SIGNS ⟨_, rfl⟩) rfl) (pss_one (L2N.ps_raise rfl tk (pmkN_oex T.o_BadSign T.i_BadSign T.t_BadSign (ok_BadSign_init T) (hr.mono (by decide)) T.b_BadSign_init passN (by rfl) T.m_BadSign (pa_cons (pv 1) pa_nil)))) pss_nil)))), ?_⟩
  refine ⟨_, rfl, z, rfl, for_it walk_enumS (fun i σ H' => ∃ v1 v2 : Option V, σ = [some (.str z), v1, v2] ∧ Same H H' ∧ ∀ (j c : Nat), j < i → z.cps.toList[j]? = some c → oddC c = false)
    ⟨_, _, rfl, Same.refl H, fun j c hj => absurd hj (Nat.not_lt_zero j)⟩ (fun _ _ _ _ _ => True.intro) ?_ ?_⟩
  · rintro i x σ H1 H2 hi ⟨v1, v2, rfl, R, hb⟩ ⟨Tp, c, rfl, hT, rfl, hc⟩
    have R2 : Same H (upd H1 Tp (.tup [.int (i : Nat), .str ⟨#[c]⟩])) := Rz.Same.new R hT
    refine ⟨Tp, _, rfl, SqT.of upd_same, rfl, _, _, rfl, _, _, rfl, rfl, ?_⟩
    refine ⟨_, rfl, c, abc, rfl, rfl, _, rfl, ?_⟩
    refine ite2 (fun ho => ?_) (fun ho => ?_)
    · have hfo := fo_some hc ho hb
      have hl := fo_lt hfo
      exact ⟨_, rfl, by show 1 ≤ 1000; decide, raise_fld (log_nat (by omega)) fun H2 d S2 hd e => kb i hfo H2 d (R2.trans S2) (R2.free hd) e⟩
    · refine ⟨_, _, rfl, R2, fun j c2 hj h2 => ?_⟩
      by_cases e : j < i
      · exact hb j c2 e h2
      · have e3 : j = i := by omega
        subst e3
        rw [hc] at h2
        cases h2
        simpa [oddC] using ho
  · rintro σ H1 ⟨v1, v2, rfl, R, hb⟩
    exact kg (fo_none fun j c hj => hb j c (by
      have := (List.getElem?_eq_some_iff.mp hj).1
      simpa using this) hj) H1 R
theorem okN_Rule_init (T : Txt K mg) : FnOk prg w K mg base (L2N.CX prg w) 4 T.f_Rule_init T.fd_Rule_init P_Rule_init (sp_Rule_init T.c_BadSign T.c_BadRule T.c_Rule) := by
  refine T.D_Rule_init.ok sc_Rule_init (fun vs H Q E h => ?_) (fun cdv A outer s H vs Q E hr h => ?_)
  · obtain ⟨p, dx, l, r, rfl, _⟩ := h
    rfl
  obtain ⟨p, dx, l, r, rfl, hl, hr4, hp, k⟩ := h
  have nd := sc_Rule_init.nd
  obtain ⟨tM, k_MOST_SIGNS⟩ := T.k_MOST_SIGNS
  have tk : L2N.Takes (cxOf (L2N.CX prg w) prg w K mg base N_Rule_init "Rule.__init__" (defScope s_Rule_init) T.f_Rule_init cdv A outer s H E) (fun cls d _ H' => E cls d H')  := L2N.takes_of rfl rfl rfl rfl
  refine ⟨_, (pss_cons (ps_expr (pe_fn (okN_check_text T) (hr.mono (by decide)) (by rfl) T.m_check_text T.F_check_text.kp T.b_check_text .nil (L2N.passAt tk) (pa_cons (pv 1) pa_nil)))
    (pss_cons (ps_expr (pe_fn (okN_check_text T) (hr.mono (by decide)) (by rfl) T.m_check_text T.F_check_text.kp T.b_check_text .nil (L2N.passAt tk) (pa_cons (pv 2) pa_nil)))
    (pss_cons (ps_if (PW.pt (pw_or (pt_not (pt_truth (pv 1) (by intro _; rfl))) (pw_or (pt_cmpR op_gt (pe_callB call_len_str (by rfl) T.n_len PySem.boot_len (pa_cons (pv 1) pa_nil)) (pe_glob (v := .int 4) (by rfl) k_MOST_SIGNS ⟨_, rfl⟩) (nomark _)) (pw_or1 (pt_cmpR op_gt (pe_callB call_len_str (by rfl) T.n_len PySem.boot_len (pa_cons (pv 2) pa_nil)) (pe_glob (v := .int 4) (by rfl) k_MOST_SIGNS ⟨_, rfl⟩) (nomark _)))))) (pss_one (L2N.ps_raise rfl tk (L2N.pmk_own PySem.F.excBase_ValueError T.o_BadRule T.m_BadRule T.kp_BadRule (raises_own T.r_BadRule T.t_BadRule) rfl))) pss_nil)
    (pss_cons (ps_fld (pv 0) (pv 1) rfl)
    (pss_one (ps_fld (pv 0) (pv 2) rfl)))))), ?_⟩
  have keepP : ∀ {H' : Hp}, Same H H' → H' p = some (.ins T.c_Rule dx []) := fun S => S _ _ hp
  refine ⟨_, rfl, l, rfl, hl, fun f1 H1 S1 => ?_, fun i f1 H1 d S1 hd e => ?_⟩
  · refine ⟨_, rfl, r, rfl, hr4, fun f2 H2 S2 => ?_, fun j i H2 d S2 hd e => ?_⟩
    · have S3 := S1.trans S2
      have g := keepP S3
      have hll : l.length ≤ sizeLine := by rw [sizeLine_eq]; omega
      have hlr : r.length ≤ sizeLine := by rw [sizeLine_eq]; omega
      unfold rd at k
      rw [f1] at k
      dsimp only at k
      rw [f2] at k
      dsimp only at k
      have bad : (l.length < 1 ∨ l.length > 4 ∨ r.length > 4) → E (.ref T.c_BadRule) none H2 := fun h => by
        rw [if_pos h] at k
        exact k H2 (But.of S3)
      have good : ¬ (l.length < 1 ∨ l.length > 4 ∨ r.length > 4) → tSeq (sFld K (tVar 0) (tVar 1) "left") (sFld K (tVar 0) (tVar 2) "right") { nx := fun _ H' => Q .non H', rt := Q } [some (.ref p), some (.str l), some (.str r)] H2 := fun h => by
        rw [if_neg h] at k
        refine ⟨_, rfl, _, rfl, p, _, dx, _, rfl, g, T.cl_Rule, T.na_Rule_left, by show 0 < 1000; decide, ?_⟩
        refine ⟨_, rfl, _, rfl, p, _, dx, _, rfl, upd_same, T.cl_Rule, T.na_Rule_right, by show 1 < 1000; decide, ?_⟩
        exact k _ (((But.of S3).upd (.inl (by simp))).upd (.inl (by simp))) upd_same
      refine ⟨_, rfl, _, ⟨hll, rfl⟩, ?_⟩
      show if (!((l.length : Int) != 0)) = true then _ else _
      refine ite2 (fun h => iteT (bad (.inl (by
        have h2 : ((l.length : Int) != 0) = false := by simpa using h
        have h3 : (l.length : Int) = 0 := by simpa using h2
        omega)))) (fun h => ?_)
      have hl0 : ¬ l.length < 1 := fun z => h (by
        have e : l.length = 0 := by omega
        rw [e]; rfl)
      refine ⟨_, rfl, l, rfl, hll, _, _, rfl, rfl, _, rfl, ?_⟩
      refine ite2 (fun h => iteT (bad (.inr (.inl (by have := of_decide_eq_true h; omega))))) (fun h => ?_)
      have hl4 : ¬ l.length > 4 := fun z => h (decide_eq_true (by omega))
      refine ⟨_, rfl, r, rfl, hlr, _, _, rfl, rfl, _, rfl, ?_⟩
      refine ite2 (fun h => bad (.inr (.inr (by have := of_decide_eq_true h; omega)))) (fun h => ?_)
      have hr5 : ¬ r.length > 4 := fun z => h (decide_eq_true (by omega))
      exact good (by omega)
    · have S3 := S1.trans S2
      unfold rd at k
      rw [f1] at k
      dsimp only at k
      rw [i] at k
      exact k H2 d (But.of S3) (S1.free hd) e
  · unfold rd at k
    rw [f1] at k
    exact k H1 d (But.of S1) hd e
end
end Rz

namespace Rz
open PySem PySem.Spec PyProof.Rows L2
/-! ### books -/
abbrev Ru := Str × Str
/-- the objects ts are the rules rs -/
def RuL (cC : Addr) (H : Hp) (ts : List Addr) (rs : List Ru) : Prop := Paired (fun (t : Addr) (r : Ru) => RuAt cC H t r.1 r.2) ts rs
theorem RuL.same {cC : Addr} {H H' : Hp} (S : Same H H') : ∀ {ts : List Addr} {rs : List Ru}, RuL cC H ts rs → RuL cC H' ts rs
  | _, _, .nil => .nil
  | _, _, .cons e r => .cons (RuAt.same e S) (RuL.same S r)
theorem RuL.len {cC : Addr} {H : Hp} {ts : List Addr} {rs : List Ru} (h : RuL cC H ts rs) : ts.length = rs.length := Paired.length h
theorem RuL.but {cC : Addr} {D : List Addr} {H H' : Hp} (B : But D H H') (n : ∀ x ∈ D, ∀ dq l r, H x ≠ some (.ins cC dq (ruleF l r))) : ∀ {ts : List Addr} {rs : List Ru}, RuL cC H ts rs → RuL cC H' ts rs
  | _, _, .nil => .nil
  | _, _, .cons ⟨dq, e⟩ r => .cons ⟨dq, B _ _ (fun z => n _ z _ _ _ e) e⟩ (RuL.but B n r)
theorem RuL.append {cC : Addr} {H : Hp} : ∀ {ts us : List Addr} {rs qs : List Ru}, RuL cC H ts rs → RuL cC H us qs → RuL cC H (ts ++ us) (rs ++ qs)
  | _, _, _, _, .nil, s => s
  | _, _, _, _, .cons e t, s => .cons e (RuL.append t s)
theorem RuL.take {cC : Addr} {H : Hp} : ∀ {ts : List Addr} {rs : List Ru} (n : Nat), RuL cC H ts rs → RuL cC H (ts.take n) (rs.take n)
  | _, _, 0, _ => .nil
  | _, _, _ + 1, .nil => .nil
  | _, _, n + 1, .cons e r => .cons e (RuL.take n r)
theorem RuL.drop {cC : Addr} {H : Hp} : ∀ {ts : List Addr} {rs : List Ru} (n : Nat), RuL cC H ts rs → RuL cC H (ts.drop n) (rs.drop n)
  | _, _, 0, h => h
  | _, _, _ + 1, .nil => .nil
  | _, _, n + 1, .cons _ r => RuL.drop n r
theorem RuL.get {cC : Addr} {H : Hp} : ∀ {ts : List Addr} {rs : List Ru} {i : Nat} {t : Addr}, RuL cC H ts rs → ts[i]? = some t → ∃ r, rs[i]? = some r ∧ RuAt cC H t r.1 r.2
  | _, _, i, t, .nil, h => by cases h
  | _, _, 0, t, .cons e r, h => by
    have z := Option.some.inj h
    subst z
    exact ⟨_, rfl, e⟩
  | _, _, i + 1, t, .cons e r, h => RuL.get (i := i) r (by simpa using h)
/-- a book: its tuple stands at t -/
def BkAt (cB cC : Addr) (H : Hp) (b t : Addr) (rs : List Ru) : Prop := ∃ dx ts, H b = some (.ins cB dx [("_rules", .ref t)]) ∧ H t = some (.tup (ts.map V.ref)) ∧ RuL cC H ts rs
theorem BkAt.same {cB cC : Addr} {H H' : Hp} {b t : Addr} {rs : List Ru} (h : BkAt cB cC H b t rs) (S : Same H H') : BkAt cB cC H' b t rs := let ⟨dx, ts, h1, h2, h3⟩ := h; ⟨dx, ts, S _ _ h1, S _ _ h2, h3.same S⟩
theorem rule_no_book {l r : Str} {v : V} : ruleF l r ≠ [(("_rules" : Str), v)] := fun h => by
  have e := congrArg List.length h
  cases e
/-- what changes is a list, or another book -/
theorem BkAt.but {cB cC : Addr} {D : List Addr} {H H' : Hp} {b t : Addr} {rs : List Ru} (h : BkAt cB cC H b t rs) (B : But D H H') (nb : b ∉ D) (n : ∀ x ∈ D, (∃ xs, H x = some (.lst xs)) ∨ ∃ dx v, H x = some (.ins cB dx [("_rules", v)])) : BkAt cB cC H' b t rs := by
  obtain ⟨dx, ts, h1, h2, h3⟩ := h
  refine ⟨dx, ts, B _ _ nb h1, B _ _ (fun z => ?_) h2, h3.but B fun x hx dq l r e => ?_⟩
  · rcases n t z with ⟨xs, e⟩ | ⟨d, v, e⟩
    · rw [e] at h2; cases h2
    · rw [e] at h2; cases h2
  · rcases n x hx with ⟨xs, e2⟩ | ⟨d, v, e2⟩
    · rw [e2] at e; cases e
    · rw [e2] at e
      have q := Option.some.inj e
      injection q with _ _ q3
      exact rule_no_book q3.symm
def GoodB (rs : List Ru) : Prop := ∀ r ∈ rs, rd r.1 r.2 = .good
theorem good_len {r : Ru} (h : rd r.1 r.2 = .good) : r.1.length ≤ 4 ∧ r.2.length ≤ 4 ∧ 1 ≤ r.1.length := by
  unfold rd at h
  split at h
  · cases h
  · split at h
    · cases h
    · split at h
      · cases h
      · omega
/-- a comprehension over a tuple of rules -/
theorem lc_rules {K : PySem.W.Frag} {cC l : Addr} {ts : List Addr} {rs : List Ru} {g : TG} {te : TE} {vs : List Nat} {σ : L2.St} {H1 : Hp} {D : Addr} {Qd : Hp → Prop} (f : Ru → V) (hl : H1 l = some (.tup (ts.map V.ref))) (hP : RuL cC H1 ts rs) (hz : rs.length ≤ sizeLine) (hD : H1 D = none)
    (body : ∀ (t : Addr) (r : Ru) (H : Hp) (Q : VK), r ∈ rs → Same H1 H → RuAt cC H t r.1 r.2 → (∀ H4, Same H H4 → Q (f r) H4) → g (.ref t) (wipe σ vs) H fun σ2 H2 => wipe σ2 vs = wipe σ vs ∧ te σ2 H2 Q)
    (hd : ∀ H, Same H1 H → H D = some (.lst (rs.map f)) → Qd H) :
    ∃ W : Nat → Nat → Hp → Prop, (∃ m, W 0 m (upd H1 D (.lst []))) ∧ ∀ i m H, W i m H →
      ((Itt K l).stop i H ∧ Qd H) ∨ ((Itt K l).go i H ∧ ∃ Nx : Hp → Prop, (∀ H', Nx H' → ∃ m', m' < m ∧ W (i + 1) m' H') ∧ ∀ x H', (Itt K l).yld i H x H' → g x (wipe σ vs) H' fun σ2 H2 => wipe σ2 vs = wipe σ vs ∧ tYes σ2 H2 fun b H3 =>
        if b = true then te σ2 H3 fun y H4 => ∃ acc, H4 D = some (.lst acc) ∧ acc.length < sizeLine ∧ Nx (upd H4 D (.lst (acc ++ [y]))) else Nx H3) := by
  refine lc_tup (K := K) (a := l) (xs := ts.map V.ref) (fun i H => Same H1 H ∧ H D = some (.lst ((rs.take i).map f))) ⟨Rz.Same.new (Same.refl H1) hD, upd_same⟩ (fun i H _ h => SqT.of (h.1 _ _ hl)) (fun i x H hx h => ?_) (fun H h => hd H h.1 ?_)
  · obtain ⟨S, e⟩ := h
    obtain ⟨t, ht, rfl⟩ := refs_get hx
    obtain ⟨p, hp, h2⟩ := hP.get ht
    have hi : i < rs.length := (List.getElem?_eq_some_iff.mp hp).1
    refine body t p H _ (List.mem_of_getElem? hp) S (h2.same S) fun H4 S4 => ⟨_, S4 _ _ e, ?_, Rz.Same.upd (S.trans S4) hD, ?_⟩
    · rw [List.length_map, List.length_take]
      omega
    · rw [upd_same, List.take_add_one, hp, List.map_append]
      rfl
  · have := h.2
    rw [List.length_map, hP.len, List.take_length] at this
    exact this
end Rz

namespace Rz
open PySem PySem.Spec PyProof.Rows L2
theorem fold_least : ∀ {ns : List Int} {m : Int}, (∀ y ∈ ns, y ≤ m) → 0 ≤ m → ns.foldr max 0 ≤ m
  | [], m, _, h0 => h0
  | n :: ns, m, h, h0 => by
    have a := h n List.mem_cons_self
    have b := fold_least (ns := ns) (fun y hy => h y (List.mem_cons_of_mem _ hy)) h0
    show max n (ns.foldr max 0) ≤ m
    omega
theorem fold_above : ∀ {ns : List Int} {m : Int}, m ∈ ns → m ≤ ns.foldr max 0
  | n :: ns, m, h => by
    show m ≤ max n (ns.foldr max 0)
    rcases List.mem_cons.mp h with e | e
    · omega
    · have := fold_above e
      omega
theorem fold_pos : ∀ {ns : List Int}, 0 ≤ ns.foldr max 0
  | [] => Int.le_refl _
  | n :: ns => by
    have := fold_pos (ns := ns)
    show 0 ≤ max n (ns.foldr max 0)
    omega
theorem fold_most {ns : List Int} {m : Int} (hm : m ∈ ns) (h : ∀ y ∈ ns, y ≤ m) (h0 : 0 ≤ m) : ns.foldr max 0 = m :=
  Int.le_antisymm (fold_least h h0) (fold_above hm)
end Rz

namespace Rz
open PySem PySem.Spec PyProof.Rows L2
/-- the rules by position -/
def sp_Book_init (cF cB : Addr) : Sp := fun vs H Q E => ∃ (x dx : Addr) (ys : List V), vs = V.ref x :: ys ∧ ys.length ≤ 1000 ∧ H x = some (.ins cB dx []) ∧
  ∀ t, H t = none → (ys.length ≤ 6 → ∀ H', But [x] (upd H t (.tup ys)) H' → H' x = some (.ins cB dx [("_rules", .ref t)]) → Q .non H') ∧ (6 < ys.length → E (.ref cF) none (upd H t (.tup ys)))
section
variable {w : World} {K : PySem.W.Frag} {mg : Str → Option Value} {base : Heap}
theorem sc_Book_init : FnScope N_Book_init P_Book_init (defScope s_Book_init) := ⟨rfl, rfl, rfl, by decide +kernel, rfl, by decide +kernel, by decide +kernel⟩
theorem ok_Book_init (T : Txt K mg) : FnR prg w K mg base (L2.CX prg w) 3 T.f_Book_init (sp_Book_init T.c_BookFull T.c_Book) := by
  obtain ⟨oc, od, kV, doc, pm, an, cdv, ct, osl, efd, lk, hcd⟩ := T.F_Book_init.ex
  rw [efd] at lk
  refine FnR.imp (StX.fn_star (ps := ["self"]) (pv := "rules") (k := 2) lk hcd sc_Book_init StX.cxUp (StX.bind_star1 (B := fun us => bindArgs (PySem.W.fnOf "__init__" "Book.__init__" (defArgs s_Book_init) (defBody s_Book_init) (defScope s_Book_init) .none kV doc pm an cdv ct) ⟨us, []⟩) (p1 := "self") (pv := "rules") (fun a => rfl) (fun a r rs => rfl)) (sp := fun vs H Q E => ∃ (x dx t : Addr) (ys : List V), vs = [.ref x, .ref t] ∧ H x = some (.ins T.c_Book dx []) ∧ H t = some (.tup ys) ∧ ys.length ≤ 1000 ∧
    (ys.length ≤ 6 → ∀ H', But [x] H H' → H' x = some (.ins T.c_Book dx [("_rules", .ref t)]) → Q .non H') ∧ (6 < ys.length → E (.ref T.c_BookFull) none H)) (fun A outer s H vs Q E hr h => ?_)) (fun vs H Q E h => ?_)
  · obtain ⟨x, dx, t, ys, rfl, hx, ht, hz, k1, k2⟩ := h
    have nd := sc_Book_init.nd
    obtain ⟨tM, k_MOST_RULES⟩ := T.k_MOST_RULES
    have tk : Takes (cxOf (L2.CX prg w) prg w K mg base N_Book_init "Book.__init__" (defScope s_Book_init) T.f_Book_init cdv A outer s H E) (fun cls d _ H' => E cls d H') := takes_of rfl rfl rfl rfl
    refine ⟨_, (pss_cons (ps_if (pt_cmpR op_gt (pe_callB call_len_seq (by rfl) T.n_len PySem.boot_len (pa_cons (pv 1) pa_nil)) (pe_glob (v := .int 6) (by rfl) k_MOST_RULES ⟨_, rfl⟩) (nomark _)) (pss_one (ps_raise rfl tk (pmk_own PySem.F.excBase_ValueError T.o_BookFull T.m_BookFull T.kp_BookFull (raises_own T.r_BookFull T.t_BookFull) rfl))) pss_nil)
      (pss_one (ps_fld (pv 0) (pe_callTy call_tuple_of (by rfl) T.n_tuple (by decide +kernel) (pa_cons (pv 1) pa_nil)) rfl))), ?_⟩
    refine ⟨_, rfl, t, ys, rfl, .inr (SqT.of ht), _, _, rfl, rfl, _, rfl, ?_⟩
    refine ite2 (fun h => ?_) (fun h => ?_)
    · exact k2 (by have := of_decide_eq_true h; omega)
    · refine ⟨_, rfl, t, ys, rfl, .inr ⟨SqT.of ht, _, rfl, x, _, dx, _, rfl, hx, T.cl_Book, T.na_Book__rules, by show 0 < 1000; decide, ?_⟩⟩
      exact k1 (by
        have h2 : ¬ ((ys.length : Int) > 6) := fun z => h (decide_eq_true z)
        omega) _ ((But.refl [x] H).upd (.inl (by simp))) upd_same
  · obtain ⟨x, dx, ys, rfl, hz, hx, hk⟩ := h
    refine ⟨[.ref x], ys, rfl, rfl, by rw [sizeLine_eq]; omega, fun p hp => ?_⟩
    obtain ⟨k1, k2⟩ := hk p hp
    exact ⟨x, dx, p, ys, rfl, by rw [upd_ne (ne_of_none hx hp)]; exact hx, upd_same, hz, k1, k2⟩
/-- a new book -/
theorem book_new {cF cB cC : Addr} {H : Hp} {Q : VK} {E : XK} {vs : List V} {ts : List Addr} {rs : List Ru} (ev : vs = ts.map V.ref) (h6 : rs.length ≤ 6) (hP : RuL cC H ts rs) (k : ∀ (H' : Hp) (b t : Addr), Same H H' → H b = none → H t = none → BkAt cB cC H' b t rs → Q (.ref b) H') :
    MkS cB (sp_Book_init cF cB) E vs H Q := by
  subst ev
  rw [mkS_eq]
  intro x dx hx hdx ndx
  have hl := hP.len
  refine ⟨x, dx, ts.map V.ref, rfl, by rw [List.length_map]; omega, upd_same, fun t ht => ⟨fun _ H' B e => ?_, fun h => by rw [List.length_map] at h; omega⟩⟩
  have ht0 : H t = none := by
    cases q : H t with
    | none => rfl
    | some o => rw [upd_ne (ne_of_none q hx), upd_ne (ne_of_none q hdx), q] at ht; cases ht
  have ntx : t ≠ x := fun z => by rw [z, upd_same] at ht; cases ht
  have S : Same H H' := fun b o e0 => B b o (by have := ne_of_none e0 hx; simpa using this) (by rw [upd_ne (ne_of_none e0 ht0), upd_ne (ne_of_none e0 hx), upd_ne (ne_of_none e0 hdx)]; exact e0)
  exact ⟨rfl, k H' x t S hx ht0 ⟨dx, ts, e, B t _ (by simpa using ntx) upd_same, hP.same S⟩⟩
/-- too many rules -/
theorem book_full {cF cB : Addr} {H : Hp} {Q : VK} {E : XK} {vs : List V} (h6 : 6 < vs.length) (hz : vs.length ≤ 1000) (k : ∀ H', Same H H' → E (.ref cF) none H') : MkS cB (sp_Book_init cF cB) E vs H Q := by
  rw [mkS_eq]
  intro x dx hx hdx ndx
  refine ⟨x, dx, vs, rfl, hz, upd_same, fun t ht => ⟨fun h => by omega, fun _ => k _ fun b o e0 => ?_⟩⟩
  have ht0 : H t = none := by
    cases q : H t with
    | none => rfl
    | some o => rw [upd_ne (ne_of_none q hx), upd_ne (ne_of_none q hdx), q] at ht; cases ht
  rw [upd_ne (ne_of_none e0 ht0), upd_ne (ne_of_none e0 hx), upd_ne (ne_of_none e0 hdx)]
  exact e0
end
end Rz

namespace Rz
open PySem PySem.Spec PyProof.Rows L2
def pr_Book_iter (cB : Addr) : Addr → Addr → Hp → Prop := fun b t H => ∃ dx xs, H b = some (.ins cB dx [("_rules", .ref t)]) ∧ H t = some (.tup xs)
section
variable {w : World} {K : PySem.W.Frag} {mg : Str → Option Value} {base : Heap}
theorem sc_Book_iter : FnScope N_Book_iter P_Book_iter (defScope s_Book_iter) := ⟨rfl, rfl, rfl, by decide +kernel, rfl, by decide +kernel, by decide +kernel⟩
theorem ok_Book_iter (T : Txt K mg) : IterOk prg w K mg base 1 T.f_Book_iter (pr_Book_iter T.c_Book) := by
  refine iter_of T.F_Book_iter sc_Book_iter T.b_Book_iter rfl rfl (fun cdv A outer s H b t hr h => ?_)
  obtain ⟨dx, xs, hb, ht⟩ := h
  refine ⟨_, (pe_callB call_iterT (by rfl) T.n_iter (by decide +kernel) (pa_cons (pe_fld (pv 0) rfl) pa_nil)), ?_⟩
  exact ⟨_, rfl, b, _, dx, _, _, rfl, hb, T.cl_Book, T.na_Book__rules, rfl, t, _, rfl, SqT.of ht, fun it hit young => ⟨it, rfl, young, hit, rfl⟩⟩
end
end Rz

namespace Rz
open PySem PySem.Spec PyProof.Rows L2
theorem fo_in {z : Str} (h : fo z = none) : ∀ c ∈ z.cps.toList, c ∈ abc.cps.toList := fun c hc => by
  have q : oddC c = false := by
    unfold fo at h
    have := List.findIdx?_eq_none_iff.mp h c hc
    simpa using this
  simpa [oddC] using q
theorem rd_fo {l r : Str} (h : rd l r = .good) : fo l = none ∧ fo r = none := by
  unfold rd at h
  split at h
  · cases h
  · rename_i e1
    split at h
    · cases h
    · rename_i e2
      exact ⟨e1, e2⟩
theorem strOk_of {z : Str} (h : fo z = none) : PyData.strOk z = true := by
  show z.cps.all (· < 0x110000) = true
  rw [← Array.all_toList, List.all_eq_true]
  intro c hc
  have le : ∀ y ∈ abc.cps.toList, y < 0x110000 := by decide +kernel
  exact decide_eq_true (le c (fo_in h c hc))
end Rz

namespace Rz
open PySem PySem.Spec PyProof.Rows L2
theorem rd_good {l r : Str} (h : rd l r = .good) : fo l = none ∧ fo r = none ∧ 1 ≤ l.length ∧ l.length ≤ 4 ∧ r.length ≤ 4 := by
  unfold rd at h
  cases e1 : fo l with
  | some i => rw [e1] at h; cases h
  | none =>
    rw [e1] at h
    cases e2 : fo r with
    | some i => rw [e2] at h; cases h
    | none =>
      rw [e2] at h
      dsimp only at h
      by_cases c : l.length < 1 ∨ l.length > 4 ∨ r.length > 4
      · rw [if_pos c] at h; cases h
      · exact ⟨rfl, rfl, by omega, by omega, by omega⟩
theorem good_rd {l r : Str} (h1 : fo l = none) (h2 : fo r = none) (h3 : 1 ≤ l.length) (h4 : l.length ≤ 4) (h5 : r.length ≤ 4) : rd l r = .good := by
  unfold rd
  rw [h1]
  dsimp only
  rw [h2]
  dsimp only
  rw [if_neg (by omega)]
theorem str_ne {z : Str} (h : 1 ≤ z.length) : z.cps.toList ≠ [] := fun e => by
  have : z.cps.toList.length = 0 := by rw [e]; rfl
  rw [len_list] at this
  omega
theorem rep1 (n : Nat) (h : Int) : (List.replicate n [V.int h]).flatten = (List.replicate n h).map V.int := by
  induction n with
  | zero => rfl
  | succ n ih => rw [List.replicate_succ, List.flatten_cons, ih]; rfl
theorem cut_hts {ps : List Pr} {i n : Nat} (h : i + n ≤ ps.length) : cutV ((hts ps).map V.int) (some (i : Int)) (some ((i + n : Nat) : Int)) = (hts ((ps.drop i).take n)).map V.int := by
  rw [cutV_nat (by omega) (by rw [List.length_map, hts_len]; exact h)]
  unfold hts
  rw [show i + n - i = n by omega, ← List.map_drop, ← List.map_take, ← List.map_drop, ← List.map_take]
end Rz

namespace Rz
open PySem PySem.Spec PyProof.Rows L2
def wrT (rs : List Ru) : Str := Txt.join "\n" (rs.map fun r => ruleT r.1 r.2)
def sp_Book_written (cB cC : Addr) : Sp := fun vs H Q _ => ∃ (b t : Addr) (rs : List Ru), vs = [.ref b] ∧ BkAt cB cC H b t rs ∧ GoodB rs ∧ rs.length ≤ 6 ∧ ∀ H', Same H H' → Q (.str (wrT rs)) H'
theorem ruleT_len {r : Ru} (h : rd r.1 r.2 = .good) : (ruleT r.1 r.2).length ≤ 9 := by
  have := good_len h
  unfold ruleT
  rw [Str.length_append, Str.length_append, Str.length_append]
  show 0 + r.1.length + 1 + r.2.length ≤ 9
  omega
theorem ruleT_sum : ∀ {rs : List Ru}, GoodB rs → ((rs.map fun r => ruleT r.1 r.2).map fun y => y.length).sum ≤ 9 * rs.length
  | [], _ => Nat.le_refl _
  | r :: rs, h => by
    have a := ruleT_len (h r List.mem_cons_self)
    have b := ruleT_sum (rs := rs) fun x hx => h x (List.mem_cons_of_mem _ hx)
    simp only [List.map_cons, List.sum_cons, List.length_cons]
    omega
section
variable {w : World} {K : PySem.W.Frag} {mg : Str → Option Value} {base : Heap}
theorem sc_Book_written : FnScope N_Book_written P_Book_written (defScope s_Book_written) := ⟨rfl, rfl, rfl, by decide +kernel, rfl, by decide +kernel, by decide +kernel⟩
theorem ok_Book_written (T : Txt K mg) : FnOk prg w K mg base (L2.CX prg w) 5 T.f_Book_written T.fd_Book_written P_Book_written (sp_Book_written T.c_Book T.c_Rule) := by
  refine Rz.Fun.okN T.F_Book_written sc_Book_written (fun vs H Q E h => ?_) (fun cdv A outer s H vs Q E hr h => ?_)
  · obtain ⟨p, l, ps, rfl, _⟩ := h
    rfl
  obtain ⟨b, t, rs, rfl, ⟨dx, ts, hb, ht, hP⟩, hg, h6, k⟩ := h
  have nd := sc_Book_written.nd
  refine ⟨_, (pss_one (ps_ret (pe_join pe_str (pe_lc (own := [("rule", 1)]) (g := (gName 1)) (tt := tYes) rfl nd (pi_tup (pe_fld (pv 0) rfl)) (blkOk_by (N := N_Book_written) (sc := defScope s_Book_written) (by decide +kernel)) (fun _ _ _ _ _ => (pg_name (i := 1) nd rfl (Or.inl rfl))) (fun _ _ _ _ _ => pts_nil) (fun _ _ _ _ _ => (pe_callTy (call_strO T.M_Rule_str (ok_Rule_str T) (hr.mono (by decide)) T.b_Rule_str) (by rfl) T.n_str (by decide +kernel) (pa_cons (pv 1) pa_nil))))))), ?_⟩
  refine ⟨⟨_, rfl⟩, _, rfl, b, _, dx, _, _, rfl, hb, T.cl_Book, T.na_Book__rules, rfl, t, rfl, ⟨_, SqT.of ht⟩, fun D hD => lc_rules (K := K) (cC := T.c_Rule) (l := t) (ts := ts) (rs := rs) (fun r => .str (ruleT r.1 r.2)) ht hP (by rw [sizeLine_eq]; omega) hD ?_ ?_⟩
  · rintro u r H2 Q2 hr2 S2 ⟨dq, eu⟩ kk
    have gl := good_len (hg r hr2)
    exact ⟨rfl, _, rfl, u, dq, _, rfl, eu, u, dq, r.1, r.2, rfl, by omega, by omega, eu, ⟨_, rfl⟩, kk _ (Same.refl _)⟩
  intro H2 S2 e2
  have e2' : rs.map (fun r => V.str (ruleT r.1 r.2)) = (rs.map fun r => ruleT r.1 r.2).map V.str := by rw [List.map_map]; rfl
  rw [e2'] at e2
  refine ⟨_, D, _, rfl, rfl, .inl (SqL.of e2), ?_, k H2 S2⟩
  have := ruleT_sum hg
  rw [List.length_map]
  show _ + _ * 1 ≤ _
  omega
end
end Rz

namespace Rz
open PySem PySem.Spec PyProof.Rows L2
theorem asc_of_fo {z : Str} (h : fo z = none) : PySem.W.KSb.Asc z := fun c hc => by
  have q := fo_in h c hc
  have all : ∀ d ∈ abc.cps.toList, d < 128 := by decide +kernel
  exact all c q
theorem ruleT_asc {l r : Str} (h : rd l r = .good) : PySem.W.KSb.Asc (ruleT l r) := by
  have a := asc_of_fo (rd_good h).1
  have b := asc_of_fo (rd_good h).2.1
  exact PySem.W.KSb.asc_app (PySem.W.KSb.asc_app (PySem.W.KSb.asc_app PySem.W.KSb.asc_empty a) (PySem.W.KSb.asc_of (by decide +kernel))) b
theorem joinL_asc {s : List Nat} (hs : ∀ c ∈ s, c < 128) : ∀ {L : List (List Nat)}, (∀ l ∈ L, ∀ c ∈ l, c < 128) → ∀ c ∈ TL.joinL s L, c < 128
  | [], _, c, hc => by cases hc
  | [l], h, c, hc => h l (List.mem_singleton.mpr rfl) c hc
  | l :: l2 :: L, h, c, hc => by
    have hc : c ∈ l ++ (s ++ TL.joinL s (l2 :: L)) := hc
    rcases List.mem_append.mp hc with z | z
    · exact h l List.mem_cons_self c z
    · rcases List.mem_append.mp z with y | y
      · exact hs c y
      · exact joinL_asc hs (fun x hx => h x (List.mem_cons_of_mem _ hx)) c y
theorem wrT_listA (rs : List Ru) : (wrT rs).cps.toList = TL.joinL [10] ((rs.map fun r => ruleT r.1 r.2).map fun y => y.cps.toList) := by
  have h := TL.tl_join "\n" (rs.map fun r => ruleT r.1 r.2)
  rw [← TL.join_eq] at h
  exact h
theorem wrT_asc {rs : List Ru} (h : GoodB rs) : PySem.W.KSb.Asc (wrT rs) := fun c hc => by
  rw [wrT_listA] at hc
  refine joinL_asc (by simp) (fun l hl d hd => ?_) c hc
  obtain ⟨y, hy, rfl⟩ := List.mem_map.mp hl
  obtain ⟨r, hr, rfl⟩ := List.mem_map.mp hy
  exact ruleT_asc (h r hr) d hd
def sp_Book_data (cB cC : Addr) : Sp := fun vs H Q _ => ∃ (b t : Addr) (rs : List Ru), vs = [.ref b] ∧ BkAt cB cC H b t rs ∧ GoodB rs ∧ rs.length ≤ 6 ∧ (wrT rs).length ≤ 100000 ∧ ∀ H', Same H H' → Q (.byt (PySem.W.KSb.enc (wrT rs))) H'
section
variable {w : World} {K : PySem.W.Frag} {mg : Str → Option Value} {base : Heap}
theorem sc_Book_data : FnScope N_Book_data P_Book_data (defScope s_Book_data) := ⟨rfl, rfl, rfl, by decide +kernel, rfl, by decide +kernel, by decide +kernel⟩
theorem ok_Book_data (T : Txt K mg) : FnOk prg w K mg base (L2.CX prg w) 6 T.f_Book_data T.fd_Book_data P_Book_data (sp_Book_data T.c_Book T.c_Rule) := by
  refine Rz.Fun.okN T.F_Book_data sc_Book_data (fun vs H Q E h => ?_) (fun cdv A outer s H vs Q E hr h => ?_)
  · obtain ⟨p, l, ps, rfl, _⟩ := h
    rfl
  obtain ⟨b, t, rs, rfl, hB, hg, h6, hl, k⟩ := h
  have nd := sc_Book_data.nd
  refine ⟨_, (pss_one (ps_ret (pe_encA (pe_mt0 (pv 0) T.cl_Book T.M_Book_written (ok_Book_written T) (hr.mono (by decide)) T.b_Book_written .nil (fun _ => atN _))))), ?_⟩
  obtain ⟨dx, ts, hb, ht, hP⟩ := id hB
  refine ⟨_, rfl, b, dx, _, rfl, hb, ?_⟩
  exact ⟨rfl, b, t, rs, rfl, hB, hg, h6, fun H2 S2 => ⟨⟨_, rfl⟩, _, rfl, rfl, wrT_asc hg, by omega, k H2 S2⟩⟩
end
end Rz

namespace Rz
open PySem PySem.Spec PyProof.Rows L2
/-- the rule of a line, if it is one -/
def ruOf (line : Str) : Option Ru := match Txt.split line ":" with
  | [l, r] => match rd l r with
    | .good => some (l, r)
    | _ => none
  | _ => none
def sp_read_rule (cL cC : Addr) : Sp := fun vs H Q E => ∃ (line : Str) (n : Nat), vs = [.str line, .int n] ∧ line.length ≤ 1000000 ∧ n ≤ 1000000 ∧
  (match ruOf line with
    | some (l, r) => ∀ H' q, Same H H' → H q = none → RuAt cC H' q l r → Q (.ref q) H'
    | none => ∀ H' d, Same H H' → H d = none → H' d = some (.xd [("line", .int n)]) → E (.ref cL) (some d) H')
theorem no_colon {l r : Str} (h : rd l r = .good) : 58 ∉ l.cps.toList ∧ 58 ∉ r.cps.toList := by
  have n : 58 ∉ abc.cps.toList := by decide +kernel
  exact ⟨fun z => n (fo_in (rd_fo h).1 _ z), fun z => n (fo_in (rd_fo h).2 _ z)⟩
theorem ruleT_join (l r : Str) : ruleT l r = Txt.join ":" [l, r] := by
  have a : (ruleT l r).cps.toList = l.cps.toList ++ 58 :: r.cps.toList := by
    unfold ruleT
    show (((Str.empty.cps ++ l.cps) ++ (":" : Str).cps) ++ r.cps).toList = _
    rw [Array.toList_append, Array.toList_append, Array.toList_append]
    show ([] ++ l.cps.toList) ++ [58] ++ r.cps.toList = _
    simp
  have b : (Txt.join ":" [l, r]).cps.toList = l.cps.toList ++ 58 :: r.cps.toList := by
    have h := TL.tl_join ":" [l, r]
    rw [← TL.join_eq] at h
    exact h
  have c := a.trans b.symm
  have d : (ruleT l r).cps = (Txt.join ":" [l, r]).cps := Array.toList_inj.mp c
  generalize ruleT l r = x at d
  generalize Txt.join ":" [l, r] = y at d
  cases x
  cases y
  exact congrArg Str.mk d
theorem ruleT_split {l r : Str} (h : rd l r = .good) : Txt.split (ruleT l r) ":" = [l, r] := by
  rw [ruleT_join]
  refine TL.split_join (s := 58) (S := []) rfl (by decide +kernel) (by simp) fun p hp => ?_
  have n := no_colon h
  rcases List.mem_cons.mp hp with e | e
  · rw [e]
    exact n.1
  · have e2 : p = r := by simpa using e
    rw [e2]
    exact n.2
theorem lenS_go {K : PySem.W.Frag} {H : Hp} {Q : VK} {p : Addr} {ys : List V} (h : SqL K H p ys) (k : Q (.int (ys.length : Nat)) H) : rLenS K [V.ref p] H Q := by
  unfold rLenS
  exact ⟨p, _, rfl, h, k⟩
theorem ruOf_ruleT {l r : Str} (h : rd l r = .good) : ruOf (ruleT l r) = some (l, r) := by
  unfold ruOf
  rw [ruleT_split h]
  dsimp only
  rw [h]
theorem two_lens {line l r : Str} {n : Nat} (h : Txt.split line ":" = [l, r]) (hz : line.length ≤ n) : l.length ≤ n ∧ r.length ≤ n := by
  have e := StrLaws.join_split line ":"
  rw [h] at e
  have b := TL.tl_join ":" [l, r]
  rw [e] at b
  have c : line.cps.toList = l.cps.toList ++ 58 :: r.cps.toList := b
  have d := congrArg List.length c
  have d1 : line.cps.toList.length = line.length := Array.length_toList
  have d2 : (l.cps.toList ++ 58 :: r.cps.toList).length = l.length + (r.length + 1) := by
    rw [List.length_append, List.length_cons, Array.length_toList, Array.length_toList]
    rfl
  omega
section
variable {w : World} {K : PySem.W.Frag} {mg : Str → Option Value} {base : Heap}
theorem okH_BadLine_init (T : Txt K mg) : L2H.FnH prg w K mg base (L2.CX prg w) 1 T.f_BadLine_init T.fd_BadLine_init ["self", "line"] (spExI T.c_BadLine "line") :=
  exinit_okH T.o_BadLine T.F_BadLine_init rfl rfl rfl rfl rfl rfl rfl rfl rfl rfl (by decide +kernel) (by decide +kernel) (by decide +kernel) (by decide) (by decide) (msg_ok3 rfl (by decide) (by decide) (by decide +kernel) (by decide +kernel)) (fun _ _ _ _ => rfl) (fun _ _ _ _ => rfl)
theorem sc_read_rule : FnScope N__read_rule P__read_rule (defScope s__read_rule) := ⟨rfl, rfl, rfl, by decide +kernel, rfl, by decide +kernel, by decide +kernel⟩
theorem ok_read_rule (T : Txt K mg) : FnOk prg w K mg base (L2.CX prg w) 6 T.f__read_rule T.fd__read_rule P__read_rule (sp_read_rule T.c_BadLine T.c_Rule) := by
  refine T.F__read_rule.okX sc_read_rule (fun vs H Q E h => ?_) (fun cdv A outer s H vs Q E hr h => ?_)
  · obtain ⟨l, n, rfl, _⟩ := h
    rfl
  obtain ⟨line, n, rfl, hz, hn, k⟩ := h
  have nd := sc_read_rule.nd
  obtain ⟨ds, vd, bd⟩ := bd_Rule_init_3 T
  cases vd
  have tk : Takes (cxOf (L2.CX prg w) prg w K mg base N__read_rule "_read_rule" (defScope s__read_rule) T.f__read_rule cdv A outer s H E) (fun cls d _ H' => E cls d H') := takes_of rfl rfl rfl rfl
  refine ⟨_, (pss_cons (ps_set (i := 2) nd rfl (Or.inl rfl) (pe_split (pv 0) pe_str))
    (pss_cons (ps_if (pt_cmpR op_ne (pe_callB call_lenS (by rfl) T.n_len PySem.boot_len (pa_cons (pv 2) pa_nil)) pe_int (nomark _)) (pss_one (ps_raise rfl tk (pmk_oex T.o_BadLine T.i_BadLine T.t_BadLine (ok_BadLine_init T) (hr.mono (by decide)) T.b_BadLine_init .nil passN (by rfl) T.m_BadLine (pa_cons (pv 1) pa_nil)))) pss_nil)
    (pss_one (ps_try_two (i := 3) (ts := fun a cls d _ σ H1 => PySem.W.subIn K cls (.type "BaseException") = some true ∧ σ[3]? = some (some (V.ref a)) ∧ tMkO T.c_BadLine (spExI T.c_BadLine "line") [] (tCons (tVar 1) tNil) σ H1 fun c d H' => E c d H') rfl rfl rfl rfl nd rfl rfl ⟨rfl, by decide, .inl T.m_BadSign⟩ ⟨rfl, by decide, .inl T.m_BadRule⟩
      (fun W pn xe tk => (pss_one (ps_ret (pe_mkR ⟨T.mk_Rule, T.M_Rule_init.at_, T.M_Rule_init.fn, T.kp_Rule⟩ (okN_Rule_init T) (hr.mono (by decide)) (by rfl) T.m_Rule bd .nil (L2N.passAt tk) (pa_cons (pe_ix (show IxR _ (rIxL K) from ix_list) (pv 2) pe_int (fun _ _ => rfl)) (pa_cons (pe_ix (show IxR _ (rIxL K) from ix_list) (pv 2) pe_int (fun _ _ => rfl)) pa_nil))))))
      (fun a oe cls d pn xe2 hot hcl tk2 => (pss_one (ps_raiseFrom (i := 3) (p := (a, oe)) hot (List.mem_cons_self) hcl tk2 (L2H.pmk5_oexH T.o_BadLine T.i_BadLine T.t_BadLine (okH_BadLine_init T) (L2H.roomH_mark (hr.mono (by decide)) _) ⟨(a, oe), hot, List.mem_cons_self⟩ T.b_BadLine_init passN (by rfl) T.m_BadLine (pa_cons (pv 1) pa_nil)) rfl (Or.inl rfl)))))))), ?_⟩
  refine ⟨_, rfl, ⟨_, rfl⟩, _, _, rfl, rfl, rfl, by show line.length + 2 ≤ _; rw [sizeLine_eq]; omega, fun p hp => ?_⟩
  have S1 := Rz.Same.new (o := .lst ((Txt.split line ":").map V.str)) (Same.refl H) hp
  unfold ruOf at k
  generalize hps : Txt.split line ":" = ps at S1 k
  have bl : ∀ {H2 : Hp}, Same H H2 → (∀ H' d, Same H H' → H d = none → H' d = some (.xd [("line", .int n)]) → E (.ref T.c_BadLine) (some d) H') → tMkO T.c_BadLine (spExI T.c_BadLine "line") [] (tCons (tC (.int n)) tNil) [] H2 fun c d H' => E c d H' := fun {H2} S2 kk =>
    ⟨by show 1 ≤ 1000; decide, raise_fld (log_nat (by omega)) fun H3 d S3 hd e => kk H3 d (S2.trans S3) (S2.free hd) e⟩
  refine ⟨_, rfl, lenS_go (SqL.of upd_same) ⟨rfl, _, rfl, ite2 (fun h => ?_) (fun h => ?_)⟩⟩
  · have hne : ps.length ≠ 2 := fun e => by
      rw [List.length_map, e] at h
      exact absurd h (by decide)
    have k2 : ∀ H' d, Same H H' → H d = none → H' d = some (.xd [("line", .int n)]) → E (.ref T.c_BadLine) (some d) H' := by
      match ps, hne, k with
      | [], _, k => exact k
      | [_], _, k => exact k
      | [_, _], hne, _ => exact absurd rfl hne
      | _ :: _ :: _ :: _, _, k => exact k
    exact ⟨_, rfl, bl S1 k2⟩
  have h2 : ps.length = 2 := by
    rw [List.length_map] at h
    have h4 : (ps.length : Int) = 2 := by simpa using h
    omega
  match ps, h2 with
  | [l, r], _ =>
    have lens := two_lens hps hz
    dsimp only at k
    have hot : ∀ {H2 : Hp} (c : Value) (d : Option Addr) (a : Addr), PySem.W.subIn K c (.type "BaseException") = some true → Same H H2 → (∀ H' d, Same H H' → H d = none → H' d = some (.xd [("line", .int n)]) → E (.ref T.c_BadLine) (some d) H') →
        PySem.W.subIn K c (.type "BaseException") = some true ∧ ([some (V.str line), some (.int n), some (.ref p), some (.ref a)] : L2.St)[3]? = some (some (V.ref a)) ∧ tMkO T.c_BadLine (spExI T.c_BadLine "line") [] (tCons (tVar 1) tNil) [some (V.str line), some (.int n), some (.ref p), some (.ref a)] H2 fun c d H' => E c d H' := fun {H2} c d a hs S2 kk => ⟨hs, rfl, _, rfl, bl S2 kk⟩
    refine ⟨_, rfl, p, _, _, .str l, rfl, rfl, SqL.of upd_same, rfl, _, rfl, p, _, _, .str r, rfl, rfl, SqL.of upd_same, rfl, ?_⟩
    show MkR _ _ _ _ _ _ _
    rw [mkR_eq]
    intro x dx hx hdx ndx
    refine ⟨x, dx, l, r, rfl, lens.1, lens.2, upd_same, ?_⟩
    have S0 : ∀ {H' : Hp}, But [x] (upd (upd (upd H p (.lst ([l, r].map V.str))) dx (.own x)) x (.ins T.c_Rule dx [])) H' → Same H H' := fun {H'} B => S1.trans fun b o e => B b o (by
      have := ne_of_none e hx
      simpa using this) (by rw [upd_ne (ne_of_none e hx), upd_ne (ne_of_none e hdx)]; exact e)
    generalize hq : rd l r = q at k
    cases q with
    | sign i =>
      intro H' d B hd e
      refine ⟨?_, fun a ha => hot _ none a T.o_BadSign.exC (S0 B) k⟩
      show PySem.W.exmAny K _ _ = _
      unfold PySem.W.exmAny
      rw [T.em_BadSign_BadSign]
      unfold PySem.W.exmAny
      rw [T.em_BadSign_BadRule]
      rfl
    | bad =>
      intro H' B
      refine ⟨?_, fun a ha => hot _ none a T.r_BadRule (S0 B) k⟩
      show PySem.W.exmAny K _ _ = _
      unfold PySem.W.exmAny
      rw [T.em_BadRule_BadSign]
      unfold PySem.W.exmAny
      rw [T.em_BadRule_BadRule]
      rfl
    | good =>
      intro H' B e
      exact ⟨rfl, k H' x (S0 B) (S1.free hx) ⟨dx, e⟩⟩
end
end Rz

namespace Rz
open PySem PySem.Spec PyProof.Rows L2
/-- the lines of a text, and what a book makes of them -/
def linesOf (t : Str) : List Str := if t.length = 0 then [] else Txt.split t "\n"
inductive BD | line (k : Nat) | full | book (rs : List Ru)
def bdOf (t : Str) : BD := match (linesOf t).findIdx? (fun z => (ruOf z).isNone) with
  | some i => .line (i + 1)
  | none => if 6 < (linesOf t).length then .full else .book ((linesOf t).filterMap ruOf)
def sp_Book_read (cL cF cB cC : Addr) : Sp := fun vs H Q E => ∃ (tv : V) (t : Str), vs = [.ref cB, tv] ∧ TxA tv t ∧ t.length ≤ 900 ∧
  (match bdOf t with
    | .line k => ∀ H' d, Same H H' → H d = none → H' d = some (.xd [("line", .int (k : Nat))]) → E (.ref cL) (some d) H'
    | .full => ∀ H', Same H H' → E (.ref cF) none H'
    | .book rs => ∀ H' b u, Same H H' → H b = none → H u = none → BkAt cB cC H' b u rs → Q (.ref b) H')
theorem joinL_part {s : List Nat} : ∀ {L : List (List Nat)} {l : List Nat}, l ∈ L → l.length ≤ (TL.joinL s L).length
  | [p], l, h => by
    have e : l = p := by simpa using h
    rw [e]
    exact Nat.le_refl _
  | p :: q :: r, l, h => by
    show _ ≤ (p ++ (s ++ TL.joinL s (q :: r))).length
    rw [List.length_append, List.length_append]
    rcases List.mem_cons.mp h with e | e
    · rw [e]
      exact Nat.le_add_right _ _
    · have := joinL_part (s := s) e
      omega
theorem line_len {t l : Str} (h : l ∈ Txt.split t "\n") : l.length ≤ t.length := by
  have b := TL.tl_join "\n" (Txt.split t "\n")
  rw [StrLaws.join_split] at b
  have c := joinL_part (s := TL.tl "\n") (List.mem_map_of_mem (f := TL.tl) h)
  rw [← b] at c
  have e1 : (TL.tl l).length = l.length := Array.length_toList
  have e2 : (TL.tl t).length = t.length := Array.length_toList
  omega
theorem good_ruOf {z : Str} {r : Ru} (h : ruOf z = some r) : rd r.1 r.2 = .good := by
  unfold ruOf at h
  split at h
  · split at h
    · rename_i l r2 _ _ e
      cases h
      exact e
    · cases h
  · cases h
section
variable {w : World} {K : PySem.W.Frag} {mg : Str → Option Value} {base : Heap}
theorem sc_Book_read : FnScope N_Book_read P_Book_read (defScope s_Book_read) := ⟨rfl, rfl, rfl, by decide +kernel, rfl, by decide +kernel, by decide +kernel⟩
theorem ok_Book_read (T : Txt K mg) : FnOk prg w K mg base (L2.CX prg w) 8 T.f_Book_read T.fd_Book_read P_Book_read (sp_Book_read T.c_BadLine T.c_BookFull T.c_Book T.c_Rule) := by
  refine T.F_Book_read.okX sc_Book_read (fun vs H Q E h => ?_) (fun cdv A outer s H vs Q E hr h => ?_)
  · obtain ⟨tv, t, rfl, _⟩ := h
    rfl
  obtain ⟨tv, t, rfl, htv, hz, k⟩ := h
  have nd := sc_Book_read.nd
  have mk : Mk K T.c_Book T.f_Book_init := ⟨T.mk_Book, T.M_Book_init.at_, T.M_Book_init.fn, T.kp_Book⟩
  have tk : Takes (cxOf (L2.CX prg w) prg w K mg base N_Book_read "Book.read" (defScope s_Book_read) T.f_Book_read cdv A outer s H E) (fun cls d _ H' => E cls d H') := takes_of rfl rfl rfl rfl
  refine ⟨_, (pss_cons (ps_set (i := 2) nd rfl (Or.inl rfl) (pe_fn (ok_decoded T) (hr.mono (by decide)) (by rfl) T.m_decoded T.F_decoded.kp T.b_decoded .nil (passAt tk) (pa_cons (pv 1) pa_nil)))
    (pss_cons (ps_if (pt_not (pt_truth (pv 2) (by intro _; rfl))) (pss_one (ps_ret (pe_mkSL0 (i := 0) mk (ok_Book_init T) (hr.mono (by decide)) rfl (Or.inl rfl) (passAt tk)))) pss_nil)
    (pss_cons (ps_set (i := 3) nd rfl (Or.inl rfl) (pe_split (pv 2) pe_str))
    (pss_cons (ps_setLcX (i := 6) (own := [("number", 4), ("line", 5)]) (E := E) (g := gTup K 2 (gCons (gName 4) (gCons (gName 5) gNil))) rfl rfl tk (fun _ _ _ _ h => h) rfl nd rfl rfl (sw_true rfl rfl rfl (by decide +kernel)) (pi_enumF (by rfl) T.n_enumerate (pa_cons (pv 3) pa_nil) (pk_cons pe_int pk_nil)) (blkOk_by (N := N_Book_read) (sc := defScope s_Book_read) (by decide +kernel)) (fun _ _ _ _ _ => (pg_tup rfl (pgs_cons (pg_name (i := 4) nd rfl (Or.inl rfl)) (pgs_cons (pg_name (i := 5) nd rfl (Or.inl rfl)) pgs_nil))))
      (fun _ _ _ _ _ _ pass => (pe_fn (E := fun _ => E) (ok_read_rule T) (hr.mono (by decide)) (by rfl) T.m__read_rule T.F__read_rule.kp T.b__read_rule .nil pass (pa_cons (pv 5) (pa_cons (pv 4) pa_nil)))))
    (pss_one (ps_ret (pe_mkSLs (i := 0) mk (ok_Book_init T) (hr.mono (by decide)) rfl (Or.inl rfl) (passAt tk) (pv 6)))))))), ?_⟩
  refine ⟨_, rfl, tv, t, rfl, htv, by omega, _, rfl, _, ⟨by rw [sizeLine_eq]; omega, rfl⟩, ?_⟩
  show if (!((t.length : Int) != 0)) = true then _ else _
  by_cases e0 : t.length = 0
  · have eb : bdOf t = .book [] := by
      unfold bdOf linesOf
      rw [if_pos e0]
      rfl
    rw [eb] at k
    refine ite2 (fun _ => ?_) (fun h => absurd (show (!((t.length : Int) != 0)) = true from by rw [e0]; rfl) h)
    exact ⟨rfl, book_new (ts := []) rfl (Nat.zero_le _) .nil k⟩
  refine ite2 (fun h => absurd h (by
    have q : ((t.length : Int) != 0) = true := by
      have : ¬ (t.length : Int) = 0 := by omega
      simpa using this
    rw [q]
    decide)) (fun _ => ?_)
  have eb : bdOf t = (match (Txt.split t "\n").findIdx? (fun z => (ruOf z).isNone) with
      | some i => .line (i + 1)
      | none => if 6 < (Txt.split t "\n").length then .full else .book ((Txt.split t "\n").filterMap ruOf)) := by
    unfold bdOf linesOf
    rw [if_neg e0]
  have ll : ∀ z ∈ Txt.split t "\n", z.length ≤ 900 := fun z hz2 => Nat.le_trans (line_len hz2) hz
  have many : (Txt.split t "\n").length ≤ 902 := Nat.le_trans (PyProof.Rows.split_le t "\n") (by omega)
  rw [eb] at k
  clear eb
  refine ⟨_, rfl, ⟨_, rfl⟩, _, _, rfl, rfl, rfl, by rw [sizeLine_eq]; omega, fun p hp => ?_⟩
  generalize Txt.split t "\n" = L at k ll many
  have S1 := Rz.Same.new (o := .lst (L.map V.str)) (Same.refl H) hp
  have e1 : upd H p (.lst (L.map V.str)) p = some (.lst (L.map V.str)) := upd_same
  generalize upd H p (.lst (L.map V.str)) = H1 at S1 e1
  refine ⟨_, rfl, p, _, 1, rfl, rfl, by decide, by decide, SqL.of e1, fun D hD => lc_it (walk_enumF (k := 1) (xs := L.map V.str)) (fun i H3 => Same H1 H3 ∧ (∀ j z, j < i → L[j]? = some z → (ruOf z).isNone = false) ∧ ∃ ts : List Addr, H3 D = some (.lst (ts.map V.ref)) ∧ RuL T.c_Rule H3 ts ((L.take i).filterMap ruOf))
    ⟨Rz.Same.new (Same.refl H1) hD, fun j z hj => absurd hj (Nat.not_lt_zero j), [], upd_same, .nil⟩ (fun i H3 _ h => SqL.of (h.1 _ _ e1)) ?_ ?_⟩
  · rintro i x H3 H4 hi ⟨S3, ok, ts, e3, P3⟩ ⟨Tp, y, rfl, hT, rfl, hy⟩
    have hi2 : i < L.length := by
      rw [List.length_map] at hi
      exact hi
    have hL : L[i]? = some L[i] := List.getElem?_eq_getElem hi2
    generalize L[i] = z at hL
    have hy2 : y = .str z := by
      rw [List.getElem?_map, hL] at hy
      exact (Option.some.inj hy).symm
    subst hy2
    have hzl := ll z (List.mem_of_getElem? hL)
    have S34 := Rz.Same.new (o := .tup [.int (1 + (i : Nat)), .str z]) (Same.refl H3) hT
    have en : (1 + ((i : Nat) : Int)) = ((i + 1 : Nat) : Int) := by omega
    refine ⟨Tp, _, rfl, SqT.of upd_same, rfl, _, _, rfl, _, _, rfl, rfl, rfl, yesT ⟨_, rfl, _, rfl, z, i + 1, by rw [en]; rfl, by omega, by omega, ?_⟩⟩
    have S14 := S3.trans S34
    cases hr2 : ruOf z with
    | none =>
      have fi : L.findIdx? (fun z => (ruOf z).isNone) = some i := by
        rw [List.findIdx?_eq_some_iff_getElem]
        refine ⟨hi2, ?_, fun j hj => ?_⟩
        · rw [show L[i] = z from Option.some.inj ((List.getElem?_eq_getElem hi2).symm.trans hL), hr2]
          rfl
        · rw [ok j _ hj (List.getElem?_eq_getElem (Nat.lt_trans hj hi2))]
          decide
      rw [fi] at k
      exact fun H5 d S5 hd e5 => k H5 d ((S1.trans S14).trans S5) ((S1.trans S14).free hd) e5
    | some r =>
      obtain ⟨l, r⟩ := r
      intro H5 q S5 hq R5
      have e5 := S5 _ _ (S34 _ _ e3)
      have lt := P3.len
      have lt2 : ((L.take i).filterMap ruOf).length ≤ L.length := Nat.le_trans (List.length_filterMap_le _ _) (by rw [List.length_take]; exact Nat.min_le_right _ _)
      refine ⟨_, e5, by rw [List.length_map, sizeLine_eq]; omega, Rz.Same.upd (S14.trans S5) hD, fun j z2 hj h2 => ?_, ts ++ [q], by rw [upd_same, List.map_append]; rfl, ?_⟩
      · by_cases ej : j < i
        · exact ok j z2 ej h2
        · have : j = i := by omega
          subst this
          rw [hL] at h2
          cases h2
          rw [hr2]
          rfl
      have P5 : RuL T.c_Rule H5 (ts ++ [q]) ((L.take (i + 1)).filterMap ruOf) := by
        rw [List.take_add_one, hL, List.filterMap_append]
        have e6 : List.filterMap ruOf (some z).toList = [(l, r)] := by
          show List.filterMap ruOf [z] = _
          rw [List.filterMap_cons, hr2]
          rfl
        rw [e6]
        exact RuL.append (P3.same (S34.trans S5)) (.cons R5 .nil)
      refine P5.but ((But.refl [D] H5).upd (.inl (by simp))) fun x hx dq l r e => ?_
      have ex : x = D := by simpa using hx
      rw [ex, e5] at e
      cases e
  · rintro H3 ⟨S3, ok, ts, e3, P3⟩
    rw [List.length_map] at ok P3
    rw [List.take_length] at P3
    have fi : L.findIdx? (fun z => (ruOf z).isNone) = none := by
      rw [List.findIdx?_eq_none_iff]
      intro z hz2
      obtain ⟨j, hj, e⟩ := List.getElem_of_mem hz2
      exact ok j z hj (by rw [List.getElem?_eq_getElem hj, e])
    have cnt : (L.filterMap ruOf).length = L.length := by
      rw [List.length_filterMap_eq_countP, List.countP_eq_length]
      intro z hz2
      obtain ⟨j, hj, e⟩ := List.getElem_of_mem hz2
      have q := ok j z hj (by rw [List.getElem?_eq_getElem hj, e])
      cases e2 : ruOf z with
      | none => rw [e2] at q; cases q
      | some _ => rfl
    have lt := P3.len
    rw [fi] at k
    dsimp only at k
    refine ⟨rfl, _, rfl, D, _, rfl, .inr (SqL.of e3), ?_⟩
    by_cases h6 : 6 < L.length
    · rw [if_pos h6] at k
      exact book_full (by rw [List.length_map]; omega) (by rw [List.length_map]; omega) fun H' S => k H' ((S1.trans S3).trans S)
    · rw [if_neg h6] at k
      exact book_new rfl (by omega) P3 fun H' b u S hb hu B => k H' b u ((S1.trans S3).trans S) ((S1.trans S3).free hb) ((S1.trans S3).free hu) B
end
end Rz

namespace Rz
open PySem PySem.Spec PyProof.Rows L2
def sp_law_pool (K : PySem.W.Frag) : Sp := fun vs H Q _ => ∃ (a : Addr) (ns : List Int), vs = [.ref a] ∧ SqL K H a (ns.map V.int) ∧ ns.length ≤ 63 ∧ ∀ H' d, Same H H' → H d = none → Dr H' d → Q (.ref d) H'
section
variable {w : World} {K : PySem.W.Frag} {mg : Str → Option Value} {base : Heap}
theorem sc_law_pool : FnScope N__law_pool P__law_pool (defScope s__law_pool) := ⟨rfl, rfl, rfl, by decide +kernel, rfl, by decide +kernel, by decide +kernel⟩
theorem ok_law_pool (T : Txt K mg) : FnOk prg w K mg base (L2.CX prg w) 1 T.f__law_pool T.fd__law_pool P__law_pool (sp_law_pool K) := by
  refine Rz.Fun.okN T.F__law_pool sc_law_pool (fun vs H Q E h => ?_) (fun cdv A outer s H vs Q E hr h => ?_)
  · obtain ⟨a, ns, rfl, _⟩ := h
    rfl
  obtain ⟨a, ns, rfl, hS, hlen, k⟩ := h
  have nd := sc_law_pool.nd
  refine ⟨_, pss_cons (ps_set (i := 1) nd rfl (Or.inl rfl) (pe_lst pa_nil)) (pss_cons (ps_set (i := 2) nd rfl (Or.inl rfl) pe_int)
    (pss_cons (ps_for PassesOwn.never rfl (pi_list (pv 0)) (pg_name (i := 3) nd rfl (Or.inl rfl))
      (pss_cons (ps_set (i := 4) nd rfl (Or.inl rfl) (pe_callB call_abs (by rfl) T.n_abs (by decide +kernel) (pa_cons (pv 3) pa_nil)))
      (pss_cons (ps_set (i := 2) nd rfl (Or.inl rfl) (pe_op op_mod (pe_callTy call_int1 (by rfl) T.n_int (by decide +kernel) (pa_cons (pe_op op_add (pe_op op_mul (pv 2) pe_int) (pv 4)) pa_nil)) pe_int))
      (pss_one (ps_if (pt_cmpR op_lt (pv 4) (pe_op op_pow pe_int pe_int) (nomark _))
        (pss_one (ps_expr (pe_bm PySem.F.plainAttrs_list PySem.F.slot_list_append PySem.F.type_list_append mt_append (pv 1) (pa_cons (pv 4) pa_nil))))
        (pss_one (ps_for PassesOwn.never rfl (pi_range1 rfl T.n_range (pa_cons pe_int pa_nil)) (pg_name (i := 5) nd rfl (Or.inl rfl))
          (pss_one (ps_if (pt_cmpR op_gt (pv 4) pe_int (nomark _))
            (pss_cons (ps_expr (pe_bm PySem.F.plainAttrs_list PySem.F.slot_list_append PySem.F.type_list_append mt_append (pv 1) (pa_cons (pe_op op_mod (pe_callTy call_int1 (by rfl) T.n_int (by decide +kernel) (pa_cons (pv 4) pa_nil)) pe_int) pa_nil)))
              (pss_one (ps_set (i := 4) nd rfl (Or.inl rfl) (pe_op op_fdiv (pv 4) pe_int))))
            pss_nil)))))))))
    (pss_cons (ps_for PassesOwn.never rfl (pi_range1 rfl T.n_range (pa_cons pe_int pa_nil)) (pg_name (i := 5) nd rfl (Or.inl rfl))
      (pss_cons (ps_set (i := 6) nd rfl (Or.inl rfl) (pe_op op_mod (pe_callTy call_int1 (by rfl) T.n_int (by decide +kernel) (pa_cons (pe_op op_mul (pe_op op_add (pv 2) pe_int) (pe_op op_add (pe_op op_fdiv (pe_op op_add (pe_op op_mul (pe_op op_mul pe_int (pv 5)) (pv 5)) (pe_op op_mul pe_int (pv 5))) pe_int) pe_int)) pa_nil)) pe_int))
        (pss_one (ps_expr (pe_bm PySem.F.plainAttrs_list PySem.F.slot_list_append PySem.F.type_list_append mt_append (pv 1) (pa_cons (pe_op op_mod (pe_callTy call_int1 (by rfl) T.n_int (by decide +kernel) (pa_cons (pe_op op_add (pe_op op_mul (pv 6) (pv 6)) (pv 5)) pa_nil)) pe_int) pa_nil))))))
    (pss_one (ps_ret (pv 1)))))), ?_⟩
  refine ⟨Nat.zero_le _, fun d hd => ?_⟩
  have S0 : Same H (upd H d (.lst [])) := Rz.Same.new (Same.refl H) hd
  refine ⟨_, rfl, a, rfl, ⟨_, S0.seq hS⟩, for_list (K := K) (a := a) (xs := ns.map V.int) (fun i σ H' => ∃ (ks : List Int) (sd : Int) (v3 v4 v5 v6 : Option V), σ = [some (.ref a), some (.ref d), some (.int sd), v3, v4, v5, v6] ∧ Same H H' ∧ H' d = some (.lst (ks.map V.int)) ∧ ks.length ≤ i * 60 ∧ 0 ≤ sd ∧ sd < 1009)
    ⟨[], 0, none, none, none, none, rfl, S0, upd_same, Nat.le_refl _, by omega, by omega⟩ (fun i σ H' _ ⟨_, _, _, _, _, _, _, R, _⟩ => R.seq hS) ?_ ?_⟩
  · rintro i y σ H' hi ⟨ks, sd, v3, v4, v5, v6, rfl, R, hK, hl, h0, h1⟩
    obtain ⟨u, hu, rfl⟩ := mapi_get hi
    have hi63 : i < ns.length := (List.getElem?_eq_some_iff.mp hu).1
    refine ⟨_, rfl, u, rfl, ?_⟩
    refine ⟨_, rfl, _, _, rfl, rfl, .inl ⟨by omega, by omega⟩, _, rfl, _, _, rfl, rfl, .inl ⟨_, rfl, _, _, rfl, rfl, (by show (0 : Int) < 1009; decide), ?_⟩⟩
    refine ⟨_, rfl, _, _, rfl, rfl, ⟨by decide, by decide, by decide⟩, _, _, rfl, rfl, _, rfl, ?_⟩
    generalize (if u < 0 then -u else u) = r
    have b0 : 0 ≤ (sd * 31 + r) % 1009 := by omega
    have b1 : (sd * 31 + r) % 1009 < 1009 := by omega
    refine ite2 (fun _ => ?_) (fun _ => ?_)
    · refine ⟨_, rfl, .inl ⟨rfl, _, SqL.of hK⟩, _, rfl, d, _, _, rfl, rfl, hK, (by rw [List.length_map, sizeLine_eq]; omega), ?_⟩
      exact ⟨ks ++ [r], (sd * 31 + r) % 1009, _, _, _, _, rfl, Rz.Same.upd R hd, by rw [upd_same, List.map_append]; rfl, by rw [List.length_append, List.length_singleton]; omega, b0, b1⟩
    · refine ⟨60, rfl, by decide, by decide, for_range (n := 60) (fun j σ H2 => ∃ (ks2 : List Int) (r2 : Int) (v5 : Option V), σ = [some (.ref a), some (.ref d), some (.int ((sd * 31 + r) % 1009)), some (.int u), some (.int r2), v5, v6] ∧ Same H H2 ∧ H2 d = some (.lst (ks2.map V.int)) ∧ ks2.length ≤ i * 60 + j)
        ⟨ks, r, _, rfl, R, hK, by omega⟩ ?_ ?_⟩
      · rintro j σ2 H2 hj ⟨ks2, r2, v7, rfl, R2, hK2, hl2⟩
        refine ⟨_, rfl, _, _, rfl, rfl, _, rfl, ?_⟩
        refine ite2 (fun _ => ?_) (fun _ => ?_)
        · refine ⟨_, rfl, .inl ⟨rfl, _, SqL.of hK2⟩, _, rfl, .inl ⟨_, rfl, _, _, rfl, rfl, (by show (0 : Int) < 1000; decide), d, _, _, rfl, rfl, hK2, (by rw [List.length_map, sizeLine_eq]; omega), ?_⟩⟩
          refine ⟨_, rfl, _, _, rfl, rfl, ⟨by decide, by decide⟩, ?_⟩
          exact ⟨ks2 ++ [r2 % 1000], _, _, rfl, Rz.Same.upd R2 hd, by rw [upd_same, List.map_append]; rfl, by rw [List.length_append, List.length_singleton]; omega⟩
        · exact ⟨ks2, r2, _, rfl, R2, hK2, by omega⟩
      · rintro σ2 H2 ⟨ks2, r2, v7, rfl, R2, hK2, hl2⟩
        exact ⟨ks2, (sd * 31 + r) % 1009, _, _, _, _, rfl, R2, hK2, by omega, b0, b1⟩
  · rintro σ H' ⟨ks, sd, v3, v4, v5, v6, rfl, R, hK, hl, h0, h1⟩
    rw [List.length_map] at hl
    refine ⟨90, rfl, by decide, by decide, for_range (n := 90) (fun j σ H2 => ∃ (ks2 : List Int) (v5 v6 : Option V), σ = [some (.ref a), some (.ref d), some (.int sd), v3, v4, v5, v6] ∧ Same H H2 ∧ H2 d = some (.lst (ks2.map V.int)) ∧ ks2.length ≤ 3780 + j)
      ⟨ks, _, _, rfl, R, hK, by omega⟩ ?_ ?_⟩
    · rintro j σ2 H2 hj ⟨ks2, v7, v8, rfl, R2, hK2, hl2⟩
      refine ⟨_, rfl, _, _, rfl, rfl, _, rfl, _, _, rfl, rfl, .inl ⟨by decide, by decide⟩, _, rfl, _, _, rfl, rfl, .inl ⟨by omega, by omega⟩, _, rfl, _, _, rfl, rfl, .inl ⟨by decide, by decide⟩, _, _, rfl, rfl,
        _, _, rfl, rfl, ⟨by decide, by decide⟩, _, _, rfl, rfl, _, _, rfl, rfl, .inl ⟨by omega, by omega⟩, .inl ⟨_, rfl, _, _, rfl, rfl, (by show (0 : Int) < 1009; decide), ?_⟩⟩
      have m0 : ∀ z : Int, -(2 ^ 64) < z % 1009 ∧ z % 1009 < 2 ^ 64 := fun z => by omega
      refine ⟨_, rfl, .inl ⟨rfl, _, SqL.of hK2⟩, _, rfl, _, rfl, _, _, rfl, rfl, .inl (m0 _), _, rfl, _, _, rfl, rfl, .inl ⟨_, rfl, _, _, rfl, rfl, (by show (0 : Int) < 1013; decide), d, _, _, rfl, rfl, hK2, (by rw [List.length_map, sizeLine_eq]; omega), ?_⟩⟩
      exact ⟨ks2 ++ [_], _, _, rfl, Rz.Same.upd R2 hd, by rw [upd_same, List.map_append]; rfl, by rw [List.length_append, List.length_singleton]; omega⟩
    · rintro σ2 H2 ⟨ks2, v7, v8, rfl, R2, hK2, hl2⟩
      exact ⟨_, rfl, k H2 d R2 hd ⟨ks2, hK2, by omega⟩⟩
end
end Rz

namespace Rz
open PySem PySem.Spec PyProof.Rows L2
def sp_law_pick : Sp := fun vs H Q _ => ∃ (d : Addr) (m : Int), vs = [.ref d, .int m] ∧ 0 < m ∧ Dr H d ∧ ∀ H' r, 0 ≤ r → r < m → Dr H' d → But [d] H H' → Q (.int r) H'
section
variable {w : World} {K : PySem.W.Frag} {mg : Str → Option Value} {base : Heap}
theorem sc_law_pick : FnScope N__law_pick P__law_pick (defScope s__law_pick) := ⟨rfl, rfl, rfl, by decide +kernel, rfl, by decide +kernel, by decide +kernel⟩
theorem ok_law_pick (T : Txt K mg) : FnOk prg w K mg base (L2.CX prg w) 1 T.f__law_pick T.fd__law_pick P__law_pick sp_law_pick := by
  refine Rz.Fun.okN T.F__law_pick sc_law_pick (fun vs H Q E h => ?_) (fun cdv A outer s H vs Q E hr h => ?_)
  · obtain ⟨d, m, rfl, _⟩ := h
    rfl
  obtain ⟨d, m, rfl, hm, ⟨ns, hd, hl⟩, k⟩ := h
  have nd := sc_law_pick.nd
  refine ⟨_, (pss_cons (ps_if (pt_cmpR (op_eqD hr.units) (pv 0) (pe_lst pa_nil) (nomark _)) (pss_one (ps_ret pe_int)) pss_nil)
    (pss_one (ps_ret (pe_op op_mod (pe_callTy call_int1 (by rfl) T.n_int (by decide +kernel) (pa_cons (pe_bm PySem.F.plainAttrs_list PySem.F.slot_list_pop PySem.F.type_list_pop mt_popAt (pv 0) (pa_cons pe_int pa_nil)) pa_nil)) (pv 1))))), ?_⟩
  refine ⟨_, rfl, Nat.zero_le _, fun p hp => ?_⟩
  have np : d ≠ p := ne_of_none hd hp
  have hd2 : upd H p (.lst []) d = some (.lst (ns.map V.int)) := by rw [upd_ne np]; exact hd
  refine ⟨dInts ns, dInts [], dp_ints (SqL.of hd2), dp_ints (SqL.of upd_same), ints_shaped _, ints_shaped _, _, rfl, ?_⟩
  rw [ints_eqv]
  refine ite2 (fun e => ?_) (fun e => ?_)
  · exact k _ 0 (Int.le_refl _) hm ⟨ns, hd2, hl⟩ ((But.refl [d] H).upd (.inr hp))
  · have e2 : ns ≠ [] := fun z => e (decide_eq_true z)
    obtain ⟨x, r, rfl⟩ := List.exists_cons_of_ne_nil e2
    refine ⟨_, rfl, .inl ⟨rfl, _, SqL.of hd2⟩, d, _, 0, 0, .int x, rfl, rfl, hd2, by decide, by decide, (by simp [seqIndex?]), rfl, .inl ⟨x, rfl, ?_⟩⟩
    refine ⟨_, rfl, x, m, rfl, rfl, hm, ?_⟩
    refine k _ _ (Int.emod_nonneg _ (by omega)) (Int.emod_lt_of_pos _ hm) ⟨r, by rw [upd_same]; rfl, by simp at hl; omega⟩ (((But.refl [d] H).upd (.inr hp)).upd (.inl (by simp)))
end
end Rz

namespace Rz
open PySem PySem.Spec PyProof.Rows L2
/-- some of the letters, each once -/
def sp_law_alphabet : Sp := fun vs H Q _ => ∃ (d : Addr) (n : Int), vs = [.ref d, .int n] ∧ 0 ≤ n ∧ n ≤ 20 ∧ Dr H d ∧ ∀ H' (z : Str), (z.length : Int) = n → Over abc z → Dr H' d → But [d] H H' → Q (.str z) H'
section
variable {w : World} {K : PySem.W.Frag} {mg : Str → Option Value} {base : Heap}
theorem sc_law_alphabet : FnScope N__law_alphabet P__law_alphabet (defScope s__law_alphabet) := ⟨rfl, rfl, rfl, by decide +kernel, rfl, by decide +kernel, by decide +kernel⟩
theorem abc_nodup : abc.cps.toList.Nodup := by decide +kernel
theorem ok_law_alphabet (T : Txt K mg) : FnOk prg w K mg base (L2.CX prg w) 2 T.f__law_alphabet T.fd__law_alphabet P__law_alphabet sp_law_alphabet := by
  refine Rz.Fun.okN T.F__law_alphabet sc_law_alphabet (fun vs H Q E h => ?_) (fun cdv A outer s H vs Q E hr h => ?_)
  · obtain ⟨d, n, rfl, _⟩ := h
    rfl
  obtain ⟨d, n, rfl, n0, n1, hD, k⟩ := h
  have nd := sc_law_alphabet.nd
  refine ⟨_, (pss_cons (ps_set (i := 2) nd rfl (Or.inl rfl) pe_str)
    (pss_cons (ps_set (i := 3) nd rfl (Or.inr rfl) pe_str)
    (pss_cons (ps_for PassesOwn.never rfl (pi_range1 rfl T.n_range (pa_cons (pv 1) pa_nil)) (pg_name (i := 4) nd rfl (Or.inl rfl))
      (pss_cons (ps_setLc (i := 6) (own := [("_law_letter", 5)]) (g := (gName 5)) (tt := _) rfl nd rfl rfl (sw_true rfl rfl rfl (by decide +kernel)) (pi_str (pv 2)) (blkOk_by (N := N__law_alphabet) (sc := defScope s__law_alphabet) (by decide +kernel)) (fun _ _ _ _ _ => (pg_name (i := 5) nd rfl (Or.inl rfl))) (fun _ _ _ _ _ => (pts_one (pt_cmpR op_notIn_sign (pv 5) (pv 3) rfl))) (fun _ _ _ _ _ => (pv 5)))
      (pss_one (ps_set (i := 3) nd rfl (Or.inr rfl) (pe_op op_add_str (pv 3) (pe_ix ix_list (pv 6) (pe_fn (ok_law_pick T) (hr.mono (by decide)) (by rfl) T.m__law_pick T.F__law_pick.kp T.b__law_pick .nil (fun _ => atN _) (pa_cons (pv 0) (pa_cons (pe_callB call_len_seq (by rfl) T.n_len PySem.boot_len (pa_cons (pv 6) pa_nil)) pa_nil))) (fun _ _ => rfl)))))))
    (pss_one (ps_ret (pv 3)))))), ?_⟩
  refine ⟨_, rfl, n, rfl, by omega, by omega, for_range (n := n.toNat) (fun i σ H' => ∃ (v4 v5 v6 : Option V) (z : Str), σ = [some (.ref d), some (.int n), some (.str abc), some (.str z), v4, v5, v6] ∧ z.length = i ∧ Over abc z ∧ Dr H' d ∧ But [d] H H') ?_ ?_ ?_⟩
  · exact ⟨none, none, none, "", rfl, rfl, (fun c hc => by cases hc), hD, But.refl _ _⟩
  · rintro i σ H1 hi ⟨v4, v5, v6, z, rfl, hz, ho, D1, B1⟩
    refine ⟨_, rfl, abc, rfl, fun D hDn => lc_it walk_str (fun i H2 => ∃ ys : List Nat, H2 D = some (.lst (ys.map fun c => V.str ⟨#[c]⟩)) ∧ ys = (abc.cps.toList.take i).filter (fun c => !decide (c ∈ z.cps.toList)) ∧ Same H1 H2) ?_ (fun _ _ _ _ => True.intro) ?_ ?_⟩
    · exact ⟨[], upd_same, rfl, Rz.Same.new (Same.refl _) hDn⟩
    · rintro j x H2 H3 hj ⟨ys, e, ey, S⟩ ⟨rfl, c, hc, rfl⟩
      have hc' : abc.cps.toList[j]? = some c := by
        rw [← hc]
        exact Array.getElem?_toList ..
      have et : abc.cps.toList.take (j + 1) = abc.cps.toList.take j ++ [c] := by rw [List.take_add_one, hc']; rfl
      have lys : ys.length ≤ 26 := by
        rw [ey]
        refine Nat.le_trans (List.length_filter_le ..) ?_
        rw [List.length_take]
        exact Nat.le_trans (Nat.min_le_right ..) (by decide +kernel)
      refine ⟨rfl, _, rfl, _, rfl, c, z, rfl, rfl, _, rfl, ?_⟩
      refine ite2 (fun hb => ?_) (fun hb => ?_)
      · refine ⟨_, rfl, _, e, by rw [List.length_map, sizeLine_eq]; omega, ys ++ [c], by rw [upd_same, List.map_append]; rfl, ?_, Rz.Same.upd S hDn⟩
        rw [et, List.filter_append, ey]
        simp only [List.filter_cons, List.filter_nil]
        rw [if_pos hb]
      · refine ⟨ys, e, ?_, S⟩
        rw [et, List.filter_append, ey]
        simp only [List.filter_cons, List.filter_nil]
        rw [if_neg hb, List.append_nil]
    · rintro H2 ⟨ys, e, ey, S⟩
      have eall : abc.cps.toList.take abc.cps.size = abc.cps.toList := List.take_of_length_le (Nat.le_refl _)
      rw [eall] at ey
      have pos : 0 < ys.length := by
        refine Nat.pos_of_ne_zero fun h0 => ?_
        have h1 : ys = [] := List.length_eq_zero_iff.mp h0
        have h2 := nodup_le abc_nodup (z := z.cps.toList) fun x hx => Classical.byContradiction fun hn => by
          have h3 : x ∈ ys := by
            rw [ey]
            exact List.mem_filter.mpr ⟨hx, by simp [hn]⟩
          rw [h1] at h3
          cases h3
        have h4 : abc.cps.toList.length = 26 := by decide +kernel
        rw [h4, len_list] at h2
        omega
      have nDd : D ≠ d := Ne.symm (apartNew D1.some hDn)
      refine ⟨_, rfl, _, rfl, _, rfl, _, rfl, D, _, rfl, .inl (SqL.of e), d, _, rfl, by rw [List.length_map]; omega, D1.same S, fun H3 r r0 r1 D3 B3 => ?_⟩
      have e3 := B3.at e (nin1 nDd)
      obtain ⟨v, hv, hat⟩ := atI_in r0 r1
      obtain ⟨c, hc, rfl⟩ := List.mem_map.mp hv
      refine ⟨D, _, r, _, rfl, rfl, SqL.of e3, hat, z, ⟨#[c]⟩, rfl, rfl, by show z.length + 1 ≤ _; rw [sizeLine_eq]; omega, ?_⟩
      refine ⟨_, _, _, z ++ ⟨#[c]⟩, rfl, by rw [Str.length_append]; show z.length + 1 = _; omega, fun x hx => ?_, D3, fun b o hb he => B3 b o hb ((S _ _ (B1 b o hb he)))⟩
      have hx2 : x ∈ z.cps.toList ++ [c] := by
        have e5 : (z ++ ⟨#[c]⟩ : Str).cps.toList = z.cps.toList ++ [c] := by
          show (z.cps ++ #[c]).toList = _
          rw [Array.toList_append]
        rw [← e5]
        exact hx
      rcases List.mem_append.mp hx2 with h | h
      · exact ho x h
      · have e6 : x = c := by simpa using h
        rw [e6]
        rw [ey] at hc
        exact (List.mem_filter.mp hc).1
  · rintro σ H1 ⟨v4, v5, v6, z, rfl, hz, ho, D1, B1⟩
    exact ⟨_, rfl, k H1 z (by omega) ho D1 B1⟩
end
end Rz

namespace Rz
open PySem PySem.Spec PyProof.Rows L2
/-- some word over the signs of z, not longer than g -/
def sp_law_word_of : Sp := fun vs H Q _ => ∃ (d : Addr) (z : Str) (l g : Int), vs = [.ref d, .str z, .int l, .int g] ∧ 0 ≤ l ∧ l ≤ g ∧ g ≤ 1000 ∧ 0 < z.length ∧ z.length ≤ 1000 ∧ Dr H d ∧
  ∀ H' (x : Str), (l : Int) ≤ x.length → (x.length : Int) ≤ g → Over z x → Dr H' d → But [d] H H' → Q (.str x) H'
section
variable {w : World} {K : PySem.W.Frag} {mg : Str → Option Value} {base : Heap}
theorem sc_law_word_of : FnScope N__law_word_of P__law_word_of (defScope s__law_word_of) := ⟨rfl, rfl, rfl, by decide +kernel, rfl, by decide +kernel, by decide +kernel⟩
theorem ok_law_word_of (T : Txt K mg) : FnOk prg w K mg base (L2.CX prg w) 2 T.f__law_word_of T.fd__law_word_of P__law_word_of sp_law_word_of := by
  refine Rz.Fun.okN T.F__law_word_of sc_law_word_of (fun vs H Q E h => ?_) (fun cdv A outer s H vs Q E hr h => ?_)
  · obtain ⟨d, z, l, g, rfl, _⟩ := h
    rfl
  obtain ⟨d, z, l, g, rfl, hl0, hlg, hg, hz0, hz, hD, k⟩ := h
  have nd := sc_law_word_of.nd
  refine ⟨_, (pss_cons (ps_set (i := 4) nd rfl (Or.inl rfl) (pe_op op_add (pv 2) (pe_fn (ok_law_pick T) (hr.mono (by decide)) (by rfl) T.m__law_pick T.F__law_pick.kp T.b__law_pick .nil (fun _ => atN _) (pa_cons (pv 0) (pa_cons (pe_op op_add (pe_op op_sub (pv 3) (pv 2)) pe_int) pa_nil)))))
    (pss_one (ps_ret (pe_join pe_str (pe_lc (own := [("_law_k", 5)]) (g := (gName 5)) (tt := tYes) rfl nd (pi_range1 rfl T.n_range (pa_cons (pv 4) pa_nil)) (blkOk_by (N := N__law_word_of) (sc := defScope s__law_word_of) (by decide +kernel)) (fun _ _ _ _ _ => (pg_name (i := 5) nd rfl (Or.inl rfl))) (fun _ _ _ _ _ => pts_nil)
      (fun _ _ _ _ _ => (pe_ix ix_str (pv 1) (pe_fn (ok_law_pick T) (hr.mono (by decide)) (by rfl) T.m__law_pick T.F__law_pick.kp T.b__law_pick .nil (fun _ => atN _) (pa_cons (pv 0) (pa_cons (pe_callB call_len_str (by rfl) T.n_len PySem.boot_len (pa_cons (pv 1) pa_nil)) pa_nil))) (fun _ _ => rfl)))))))), ?_⟩
  refine ⟨_, rfl, _, rfl, _, rfl, _, rfl, _, _, rfl, rfl, _, _, rfl, rfl, d, _, rfl, by omega, hD, fun H1 r h0 h1 D1 B1 => ⟨_, _, rfl, rfl, ?_⟩⟩
  refine ⟨⟨_, rfl⟩, _, rfl, l + r, rfl, by omega, by omega, fun D hDn => lc_range (lo := 0) (n := (l + r).toNat) (fun i H2 => ∃ ys : List Str, H2 D = some (.lst (ys.map V.str)) ∧ ys.length = i ∧ (∀ y ∈ ys, y.length = 1 ∧ Over z y) ∧ Dr H2 d ∧ But [d] H H2) ?_ ?_ ?_⟩
  · exact ⟨[], upd_same, rfl, (fun y hy => by cases hy), D1.same (Rz.Same.new (Same.refl _) hDn), B1.upd (.inr (B1.free (fun z => by
      obtain ⟨_, q, _⟩ := D1
      have e : D = d := by simpa using z
      rw [e, q] at hDn
      cases hDn) hDn))⟩
  · rintro i H2 hi ⟨ys, hY, hl, hy, D2, B2⟩
    refine ⟨rfl, yesT ⟨_, rfl, _, rfl, _, rfl, z, rfl, by rw [sizeLine_eq]; omega, d, _, rfl, by omega, D2, fun H3 r2 g0 g1 D3 B3 => ?_⟩⟩
    obtain ⟨c, hc, hat⟩ := atI_in (xs := z.cps.toList) g0 (by rw [len_list]; exact g1)
    have nDd : D ∉ [d] := fun z => by
      obtain ⟨_, q, _⟩ := D1
      have e : D = d := by simpa using z
      rw [e, q] at hDn
      cases hDn
    have hY3 := B3.at hY nDd
    have l3 : ys.length < sizeLine := by rw [sizeLine_eq]; omega
    refine ⟨z, _, c, rfl, rfl, by rw [sizeLine_eq]; omega, hat, _, hY3, by rw [List.length_map]; exact l3, ys ++ [⟨#[c]⟩], by rw [upd_same, List.map_append]; rfl, by rw [List.length_append, hl]; rfl, fun y h => ?_, ?_, ?_⟩
    · rcases List.mem_append.mp h with h | h
      · exact hy y h
      · have e : y = ⟨#[c]⟩ := by simpa using h
        subst e
        exact ⟨rfl, fun c2 h2 => by
          have e2 : c2 = c := by simpa using h2
          rw [e2]
          exact hc⟩
    · obtain ⟨ns, n1, n2⟩ := D3
      exact ⟨ns, by rw [upd_ne (fun z => nDd (by simp [z]))]; exact n1, n2⟩
    · exact (B2.trans B3).upd (.inr (B1.free nDd hDn))
  · rintro H2 ⟨ys, hY, hl, hy, D2, B2⟩
    have s1 := sum_ones fun y h => (hy y h).1
    refine ⟨_, D, ys, rfl, rfl, .inl (SqL.of hY), by show _ + ys.length * 0 ≤ _; omega, k H2 _ ?_ ?_ (over_join fun y h => (hy y h).2) D2 B2⟩
    · rw [join0_len]; omega
    · rw [join0_len]; omega
end
end Rz

namespace Rz
open PySem PySem.Spec PyProof.Rows L2
def sp_law_is_int : Sp := fun vs H Q _ => ∃ n : Int, vs = [.int n] ∧ Q (.bl true) H
section
variable {w : World} {K : PySem.W.Frag} {mg : Str → Option Value} {base : Heap}
theorem sc_law_is_int : FnScope N__law_is_int P__law_is_int (defScope s__law_is_int) := ⟨rfl, rfl, rfl, by decide +kernel, rfl, by decide +kernel, by decide +kernel⟩
theorem ok_law_is_int (T : Txt K mg) : FnOk prg w K mg base (L2.CX prg w) 1 T.f__law_is_int T.fd__law_is_int P__law_is_int sp_law_is_int := by
  refine Rz.Fun.okN T.F__law_is_int sc_law_is_int (fun vs H Q E h => ?_) (fun cdv A outer s H vs Q E hr h => ?_)
  · obtain ⟨n, rfl, _⟩ := h
    rfl
  obtain ⟨n, rfl, k⟩ := h
  refine ⟨_, (pss_one (ps_ret (pe_and (pe_callB call_isi (by rfl) T.n_isinstance (by decide +kernel) (pa_cons (pv 0) (pa_cons (pe_bltn (v := .ty "int") (by rfl) T.n_int (by decide +kernel) rfl) pa_nil))) (pe_one (pe_not (pe_callB call_isi (by rfl) T.n_isinstance (by decide +kernel) (pa_cons (pv 0) (pa_cons (pe_bltn (v := .ty "bool") (by rfl) T.n_bool (by decide +kernel) rfl) pa_nil)))))))), ?_⟩
  refine ⟨_, rfl, _, _, .type "int", .type "int", true, rfl, .ty _, .base (.int n), kit_ty (by decide +kernel), true, rfl, ?_⟩
  exact iteT ⟨_, rfl, _, _, .type "int", .type "bool", false, rfl, .ty _, .base (.int n), kit_ty (by decide +kernel), false, rfl, k⟩
end
end Rz

namespace Rz
open PySem PySem.Spec PyProof.Rows L2
/-! ### lists of pairs of texts -/
def sdV (r : Ru) : List V := [.str r.1, .str r.2]
def SdL (H : Hp) (ts : List Addr) (rs : List Ru) : Prop := Paired (fun (t : Addr) (r : Ru) => H t = some (.tup (sdV r))) ts rs
def SAt (H : Hp) (l : Addr) (rs : List Ru) : Prop := ∃ ts : List Addr, H l = some (.lst (ts.map V.ref)) ∧ SdL H ts rs
theorem SdL.keep {H H' : Hp} (h : Tups H H') : ∀ {ts : List Addr} {rs : List Ru}, SdL H ts rs → SdL H' ts rs
  | _, _, .nil => .nil
  | _, _, .cons e r => .cons (h _ _ e) (SdL.keep h r)
theorem SdL.len {H : Hp} {ts : List Addr} {rs : List Ru} (h : SdL H ts rs) : ts.length = rs.length := Paired.length h
theorem SdL.append {H : Hp} : ∀ {ts us : List Addr} {rs qs : List Ru}, SdL H ts rs → SdL H us qs → SdL H (ts ++ us) (rs ++ qs)
  | _, _, _, _, .nil, s => s
  | _, _, _, _, .cons e t, s => .cons e (SdL.append t s)
theorem SdL.take {H : Hp} : ∀ {ts : List Addr} {rs : List Ru} (n : Nat), SdL H ts rs → SdL H (ts.take n) (rs.take n)
  | _, _, 0, _ => .nil
  | _, _, _ + 1, .nil => .nil
  | _, _, n + 1, .cons e r => .cons e (SdL.take n r)
theorem SdL.drop {H : Hp} : ∀ {ts : List Addr} {rs : List Ru} (n : Nat), SdL H ts rs → SdL H (ts.drop n) (rs.drop n)
  | _, _, 0, h => h
  | _, _, _ + 1, .nil => .nil
  | _, _, n + 1, .cons _ r => SdL.drop n r
theorem SdL.get {H : Hp} : ∀ {ts : List Addr} {rs : List Ru} {i : Nat} {t : Addr}, SdL H ts rs → ts[i]? = some t → ∃ r, rs[i]? = some r ∧ H t = some (.tup (sdV r))
  | _, _, i, t, .nil, h => by cases h
  | _, _, 0, t, .cons e r, h => by
    have z := Option.some.inj h
    subst z
    exact ⟨_, rfl, e⟩
  | _, _, i + 1, t, .cons e r, h => SdL.get (i := i) r (by simpa using h)
theorem SAt.same {H H' : Hp} {l : Addr} {rs : List Ru} (S : Same H H') (a : SAt H l rs) : SAt H' l rs := let ⟨ts, h1, h2⟩ := a; ⟨ts, S _ _ h1, h2.keep (.of S)⟩
theorem SAt.but {D : List Addr} {H H' : Hp} {l : Addr} {rs : List Ru} (a : SAt H l rs) (B : But D H H') (n : l ∉ D) (t : Tups H H') : SAt H' l rs := let ⟨ts, h1, h2⟩ := a; ⟨ts, B.at h1 n, h2.keep t⟩
theorem lc_sides {K : PySem.W.Frag} {l : Addr} {rs : List Ru} {g : TG} {te : TE} {vs : List Nat} {σ : L2.St} {H1 : Hp} {D : Addr} {Qd : Hp → Prop} (f : Ru → V) (hL : SAt H1 l rs) (hz : rs.length ≤ sizeLine) (hD : H1 D = none)
    (body : ∀ (t : Addr) (r : Ru) (H : Hp) (Q : VK), r ∈ rs → Same H1 H → H t = some (.tup (sdV r)) → (∀ H4, Same H H4 → Q (f r) H4) → g (.ref t) (wipe σ vs) H fun σ2 H2 => wipe σ2 vs = wipe σ vs ∧ te σ2 H2 Q)
    (hd : ∀ H, Same H1 H → H D = some (.lst (rs.map f)) → Qd H) :
    ∃ W : Nat → Nat → Hp → Prop, (∃ m, W 0 m (upd H1 D (.lst []))) ∧ ∀ i m H, W i m H →
      ((Itl K l).stop i H ∧ Qd H) ∨ ((Itl K l).go i H ∧ ∃ Nx : Hp → Prop, (∀ H', Nx H' → ∃ m', m' < m ∧ W (i + 1) m' H') ∧ ∀ x H', (Itl K l).yld i H x H' → g x (wipe σ vs) H' fun σ2 H2 => wipe σ2 vs = wipe σ vs ∧ tYes σ2 H2 fun b H3 =>
        if b = true then te σ2 H3 fun y H4 => ∃ acc, H4 D = some (.lst acc) ∧ acc.length < sizeLine ∧ Nx (upd H4 D (.lst (acc ++ [y]))) else Nx H3) := by
  obtain ⟨ts, hl, hP⟩ := hL
  refine lc_list (K := K) (a := l) (xs := ts.map V.ref) (fun i H => Same H1 H ∧ H D = some (.lst ((rs.take i).map f))) ⟨Rz.Same.new (Same.refl H1) hD, upd_same⟩ (fun i H _ h => SqL.of (h.1 _ _ hl)) (fun i x H hx h => ?_) (fun H h => hd H h.1 ?_)
  · obtain ⟨S, e⟩ := h
    obtain ⟨t, ht, rfl⟩ := refs_get hx
    obtain ⟨p, hp, h2⟩ := hP.get ht
    have hi : i < rs.length := (List.getElem?_eq_some_iff.mp hp).1
    refine body t p H _ (List.mem_of_getElem? hp) S (S _ _ h2) fun H4 S4 => ⟨_, S4 _ _ e, ?_, Rz.Same.upd (S.trans S4) hD, ?_⟩
    · rw [List.length_map, List.length_take]
      omega
    · rw [upd_same, List.take_add_one, hp, List.map_append]
      rfl
  · have := h.2
    rw [List.length_map, hP.len, List.take_length] at this
    exact this
/-- as data -/
abbrev dSd (r : Ru) : PyData := .tuple [.str r.1, .str r.2]
abbrev dSds (rs : List Ru) : PyData := .list (rs.map dSd)
theorem sds_all {K : PySem.W.Frag} {H : Hp} : ∀ {ts : List Addr} {rs : List Ru}, SdL H ts rs → DpAll K H (ts.map V.ref) (rs.map dSd)
  | _, _, .nil => .nil
  | _, _, .cons e r => .cons (.tup (SqT.of e) (.cons (.str _) (.cons (.str _) .nil))) (sds_all r)
theorem sds_at {K : PySem.W.Frag} {H : Hp} {l : Addr} {rs : List Ru} (h : SAt H l rs) : Dp K H (.ref l) (dSds rs) := let ⟨_, h1, h2⟩ := h; .lst (SqL.of h1) (sds_all h2)
end Rz

namespace Rz
open PySem PySem.Spec PyProof.Rows L2
def sp_law_odd_sign : Sp := fun vs H Q _ => ∃ d : Addr, vs = [.ref d] ∧ Dr H d ∧ ∀ H' c, Dr H' d → But [d] H H' → Q (.str ⟨#[c]⟩) H'
section
variable {w : World} {K : PySem.W.Frag} {mg : Str → Option Value} {base : Heap}
theorem sc_law_odd_sign : FnScope N__law_odd_sign P__law_odd_sign (defScope s__law_odd_sign) := ⟨rfl, rfl, rfl, by decide +kernel, rfl, by decide +kernel, by decide +kernel⟩
theorem ok_law_odd_sign (T : Txt K mg) : FnOk prg w K mg base (L2.CX prg w) 2 T.f__law_odd_sign T.fd__law_odd_sign P__law_odd_sign sp_law_odd_sign := by
  refine Rz.Fun.okN T.F__law_odd_sign sc_law_odd_sign (fun vs H Q E h => ?_) (fun cdv A outer s H vs Q E hr h => ?_)
  · obtain ⟨d, rfl, _⟩ := h
    rfl
  obtain ⟨d, rfl, hD, k⟩ := h
  have nd := sc_law_odd_sign.nd
  refine ⟨_, (pss_cons (ps_set (i := 1) nd rfl (Or.inl rfl) pe_str)
    (pss_one (ps_ret (pe_ix ix_str (pv 1) (pe_fn (ok_law_pick T) (hr.mono (by decide)) (by rfl) T.m__law_pick T.F__law_pick.kp T.b__law_pick .nil (fun _ => atN _) (pa_cons (pv 0) (pa_cons (pe_callB call_len_str (by rfl) T.n_len PySem.boot_len (pa_cons (pv 1) pa_nil)) pa_nil))) (fun _ _ => rfl))))), ?_⟩
  refine ⟨_, rfl, _, rfl, _, rfl, _, rfl, by decide +kernel, d, _, rfl, by decide +kernel, hD, fun H1 r h0 h1 D1 B1 => ?_⟩
  obtain ⟨c, _, hat⟩ := atI_in h0 (by rw [len_list]; exact h1)
  exact ⟨_, _, c, rfl, rfl, by decide +kernel, hat, k H1 c D1 B1⟩
end
end Rz

namespace Rz
open PySem PySem.Spec PyProof.Rows L2
def sp_law_first_odd : Sp := fun vs H Q _ => ∃ z : Str, vs = [.str z] ∧ z.length ≤ 1000000 ∧ Q (.int (foI z)) H
section
variable {w : World} {K : PySem.W.Frag} {mg : Str → Option Value} {base : Heap}
theorem sc_law_first_odd : FnScope N__law_first_odd P__law_first_odd (defScope s__law_first_odd) := ⟨rfl, rfl, rfl, by decide +kernel, rfl, by decide +kernel, by decide +kernel⟩
theorem ok_law_first_odd (T : Txt K mg) : FnOk prg w K mg base (L2.CX prg w) 1 T.f__law_first_odd T.fd__law_first_odd P__law_first_odd sp_law_first_odd := by
  refine Rz.Fun.okN T.F__law_first_odd sc_law_first_odd (fun vs H Q E h => ?_) (fun cdv A outer s H vs Q E hr h => ?_)
  · obtain ⟨z, rfl, _⟩ := h
    rfl
  obtain ⟨z, rfl, hz, k⟩ := h
  have nd := sc_law_first_odd.nd
  refine ⟨_, (pss_cons (ps_for PassesOwn.never rfl (pi_range1 rfl T.n_range (pa_cons (pe_callB call_len_str (by rfl) T.n_len PySem.boot_len (pa_cons (pv 0) pa_nil)) pa_nil)) (pg_name (i := 1) nd rfl (Or.inl rfl))
      (pss_one (ps_if (pt_cmpR op_notIn_sign (pe_ix ix_str (pv 0) (pv 1) (fun _ _ => rfl)) pe_str rfl) (pss_one (ps_ret (pv 1))) pss_nil)))
    (pss_one (ps_ret (pe_un un_neg pe_int)))), ?_⟩
  refine ⟨_, rfl, z, rfl, by rw [sizeLine_eq]; omega, z.length, rfl, by omega, by omega, for_range (n := z.length) (fun i σ H' => ∃ v1 : Option V, σ = [some (.str z), v1] ∧ H' = H ∧ ∀ (j c : Nat), j < i → z.cps.toList[j]? = some c → oddC c = false)
    ⟨_, rfl, rfl, fun j c hj => absurd hj (Nat.not_lt_zero j)⟩ ?_ ?_⟩
  · rintro i σ H1 hi ⟨v1, rfl, rfl, hb⟩
    have hiz : i < z.cps.toList.length := by rw [len_list]; simpa using hi
    have hc : z.cps.toList[i]? = some z.cps.toList[i] := List.getElem?_eq_getElem hiz
    generalize z.cps.toList[i] = c at hc
    have hat : atI z.cps.toList (0 + (i : Int)) = some c := by
      rw [show (0 + (i : Int)) = ((i : Nat) : Int) by omega]
      exact atI_nat hc
    refine ⟨_, rfl, _, rfl, z, 0 + (i : Int), c, rfl, rfl, by rw [sizeLine_eq]; omega, hat, c, abc, rfl, rfl, _, rfl, ?_⟩
    refine ite2 (fun ho => ?_) (fun ho => ?_)
    · have hfo := fo_some hc ho hb
      refine ⟨_, rfl, ?_⟩
      have e : foI z = 0 + (i : Int) := by unfold foI; rw [hfo]; show (i : Int) = 0 + (i : Int); omega
      rw [← e]
      exact k
    · refine ⟨_, rfl, rfl, fun j c2 hj h2 => ?_⟩
      by_cases e : j < i
      · exact hb j c2 e h2
      · have e3 : j = i := by omega
        subst e3
        rw [hc] at h2
        cases h2
        simpa [oddC] using ho
  · rintro σ H1 ⟨v1, rfl, rfl, hb⟩
    have hfo : fo z = none := fo_none fun j c hj => hb j c (by
      have hl := (List.getElem?_eq_some_iff.mp hj).1
      rw [len_list] at hl
      exact hl) hj
    refine ⟨_, rfl, ?_⟩
    have e : foI z = -1 := by unfold foI; rw [hfo]
    show Q (.int (-1)) H1
    rw [← e]
    exact k
end
end Rz

namespace Rz
open PySem PySem.Spec PyProof.Rows L2
def isT (z : Str) (a b : Int) : Bool := decide (fo z = none) && (decide (a ≤ z.length) && decide ((z.length : Int) ≤ b))
def sp_law_is_text : Sp := fun vs H Q _ => ∃ (z : Str) (a b : Int), vs = [.str z, .int a, .int b] ∧ z.length ≤ 1000000 ∧ Q (.bl (isT z a b)) H
section
variable {w : World} {K : PySem.W.Frag} {mg : Str → Option Value} {base : Heap}
theorem sc_law_is_text : FnScope N__law_is_text P__law_is_text (defScope s__law_is_text) := ⟨rfl, rfl, rfl, by decide +kernel, rfl, by decide +kernel, by decide +kernel⟩
theorem ok_law_is_text (T : Txt K mg) : FnOk prg w K mg base (L2.CX prg w) 2 T.f__law_is_text T.fd__law_is_text P__law_is_text sp_law_is_text := by
  refine Rz.Fun.okN T.F__law_is_text sc_law_is_text (fun vs H Q E h => ?_) (fun cdv A outer s H vs Q E hr h => ?_)
  · obtain ⟨z, a, b, rfl, _⟩ := h
    rfl
  obtain ⟨z, a, b, rfl, hz, k⟩ := h
  refine ⟨_, (pss_one (ps_ret (pe_and (pe_cmpR op_lt (pe_fn (ok_law_first_odd T) (hr.mono (by decide)) (by rfl) T.m__law_first_odd T.F__law_first_odd.kp T.b__law_first_odd .nil (fun _ => atN _) (pa_cons (pv 0) pa_nil)) pe_int (nomark _)) (pe_one (pe_chain op_le op_le (pv 1) (pe_callB call_len_str (by rfl) T.n_len PySem.boot_len (pa_cons (pv 0) pa_nil)) (pv 2)))))), ?_⟩
  refine ⟨_, rfl, z, rfl, hz, _, _, rfl, rfl, ?_⟩
  unfold isT at k
  have foI0 : (foI z < 0) ↔ fo z = none := by
    unfold foI
    cases fo z with
    | none => exact ⟨fun _ => rfl, fun _ => by decide⟩
    | some i => exact ⟨fun h => absurd h (by show ¬ ((i : Nat) : Int) < 0; omega), fun h => by cases h⟩
  by_cases h : fo z = none
  · have e : decide (foI z < 0) = true := decide_eq_true (foI0.mpr h)
    rw [decide_eq_true h, Bool.true_and] at k
    refine ⟨_, congrArg V.bl e, iteT ?_⟩
    refine ⟨_, rfl, _, rfl, z, rfl, by rw [sizeLine_eq]; omega, _, _, rfl, rfl, ?_⟩
    by_cases ha : a ≤ (z.length : Int)
    · rw [decide_eq_true ha, Bool.true_and] at k
      exact ⟨_, congrArg V.bl (decide_eq_true ha), iteT ⟨_, rfl, _, _, rfl, rfl, k⟩⟩
    · rw [decide_eq_false ha, Bool.false_and] at k
      exact ⟨_, congrArg V.bl (decide_eq_false ha), iteF k⟩
  · have e : decide (foI z < 0) = false := decide_eq_false fun q => h (foI0.mp q)
    rw [decide_eq_false h, Bool.false_and] at k
    exact ⟨_, congrArg V.bl e, iteF k⟩
end
end Rz

namespace Rz
open PySem PySem.Spec PyProof.Rows L2
/-- what is due, as the law has it -/
def DueAt (H : Hp) (p : Addr) : BD → Prop
  | .line k => H p = some (.tup [.str "line", .int (k : Nat)])
  | .full => H p = some (.tup [.str "full", .int 0])
  | .book rs => ∃ l, H p = some (.tup [.str "book", .ref l]) ∧ SAt H l rs
theorem DueAt.same {H H' : Hp} {p : Addr} {o : BD} (S : Same H H') (h : DueAt H p o) : DueAt H' p o := by
  cases o with
  | line k => exact S _ _ h
  | full => exact S _ _ h
  | book rs => exact let ⟨c, e, L⟩ := h; ⟨c, S _ _ e, L.same S⟩
def sp_law_due_of : Sp := fun vs H Q _ => ∃ (t : Str), vs = [.str t] ∧ t.length ≤ 900 ∧ ∀ H' u, Same H H' → DueAt H' u (bdOf t) → Q (.ref u) H'
theorem ruOf_two {line l r : Str} (h : Txt.split line ":" = [l, r]) : ruOf line = if isT l 1 4 = true ∧ isT r 0 4 = true then some (l, r) else none := by
  unfold ruOf
  rw [h]
  dsimp only
  by_cases hg : rd l r = .good
  · rw [hg]
    dsimp only
    have g := rd_good hg
    rw [if_pos]
    unfold isT
    rw [decide_eq_true g.1, decide_eq_true g.2.1]
    simp only [Bool.true_and, Bool.and_eq_true, decide_eq_true_eq]
    omega
  · have n : ¬ (isT l 1 4 = true ∧ isT r 0 4 = true) := fun ⟨a, b⟩ => by
      unfold isT at a b
      simp only [Bool.and_eq_true, decide_eq_true_eq] at a b
      exact hg (good_rd a.1 b.1 (by omega) (by omega) (by omega))
    rw [if_neg n]
    cases e : rd l r with
    | good => exact absurd e hg
    | sign i => rfl
    | bad => rfl
theorem ruOf_not {line : Str} (h : (Txt.split line ":").length ≠ 2) : ruOf line = none := by
  unfold ruOf
  generalize Txt.split line ":" = L at h
  match L, h with
  | [], _ => rfl
  | [_], _ => rfl
  | [_, _], h => exact absurd rfl h
  | _ :: _ :: _ :: _, _ => rfl
section
variable {w : World} {K : PySem.W.Frag} {mg : Str → Option Value} {base : Heap}
theorem sc_law_due_of : FnScope N__law_due_of P__law_due_of (defScope s__law_due_of) := ⟨rfl, rfl, rfl, by decide +kernel, rfl, by decide +kernel, by decide +kernel⟩
theorem ok_law_due_of (T : Txt K mg) : FnOk prg w K mg base (L2.CX prg w) 3 T.f__law_due_of T.fd__law_due_of P__law_due_of sp_law_due_of := by
  refine Rz.Fun.okN T.F__law_due_of sc_law_due_of (fun vs H Q E h => ?_) (fun cdv A outer s H vs Q E hr h => ?_)
  · obtain ⟨t, rfl, _⟩ := h
    rfl
  obtain ⟨t, rfl, hz, k⟩ := h
  have nd := sc_law_due_of.nd
  have two : (2 : Nat) ≤ sizeLine := by decide
  refine ⟨_, (C8.pss_cut (ps_set (i := 1) nd rfl (Or.inl rfl) (pe_ifExp (pt_cmpR op_eq (pv 0) pe_str (nomark _)) (pe_lst pa_nil) (pe_split (pv 0) pe_str)))
    (pss_cons (ps_set (i := 2) nd rfl (Or.inl rfl) (pe_lst pa_nil))
    (pss_cons (ps_for PassesOwn.never rfl (pi_range1 rfl T.n_range (pa_cons (pe_callB call_lenS (by rfl) T.n_len PySem.boot_len (pa_cons (pv 1) pa_nil)) pa_nil)) (pg_name (i := 3) nd rfl (Or.inl rfl))
      (pss_cons (ps_set (i := 4) nd rfl (Or.inl rfl) (pe_split (pe_ix ix_list (pv 1) (pv 3) (fun _ _ => rfl)) pe_str))
      (pss_cons (ps_if (PW.pt (pw_or (pt_cmpR op_ne (pe_callB call_lenS (by rfl) T.n_len PySem.boot_len (pa_cons (pv 4) pa_nil)) pe_int (nomark _)) (pw_or (pt_not (pt_val (pe_fn (ok_law_is_text T) (hr.mono (by decide)) (by rfl) T.m__law_is_text T.F__law_is_text.kp T.b__law_is_text .nil (fun _ => atN _) (pa_cons (pe_ix ix_list (pv 4) pe_int (fun _ _ => rfl)) (pa_cons pe_int (pa_cons pe_int pa_nil)))))) (pw_or1 (pt_not (pt_val (pe_fn (ok_law_is_text T) (hr.mono (by decide)) (by rfl) T.m__law_is_text T.F__law_is_text.kp T.b__law_is_text .nil (fun _ => atN _) (pa_cons (pe_ix ix_list (pv 4) pe_int (fun _ _ => rfl)) (pa_cons pe_int (pa_cons pe_int pa_nil)))))))))) (pss_one (ps_ret (pe_tup (pa_cons pe_str (pa_cons (pe_op op_add (pv 3) pe_int) pa_nil))))) pss_nil)
      (pss_one (ps_expr (pe_bm PySem.F.plainAttrs_list PySem.F.slot_list_append PySem.F.type_list_append mt_append (pv 2) (pa_cons (pe_tup (pa_cons (pe_ix ix_list (pv 4) pe_int (fun _ _ => rfl)) (pa_cons (pe_ix ix_list (pv 4) pe_int (fun _ _ => rfl)) pa_nil))) pa_nil)))))))
    (pss_cons (ps_if (pt_cmpR op_gt (pe_callB call_lenS (by rfl) T.n_len PySem.boot_len (pa_cons (pv 2) pa_nil)) pe_int (nomark _)) (pss_one (ps_ret (pe_tup (pa_cons pe_str (pa_cons pe_int pa_nil))))) pss_nil)
    (pss_one (ps_ret (pe_tup (pa_cons pe_str (pa_cons (pv 2) pa_nil))))))))), ?_⟩
  refine ⟨fun σ H1 => ∃ p : Addr, σ = [some (.str t), some (.ref p), none, none, none] ∧ Same H H1 ∧ H1 p = some (.lst ((linesOf t).map V.str)) ∧ (∀ z ∈ linesOf t, z.length ≤ 900) ∧ (linesOf t).length ≤ 902, ?_, ?_⟩
  · refine ⟨_, rfl, rfl, _, rfl, ite2 (fun h => ?_) (fun h => ?_)⟩
    · have e0 : t.length = 0 := by
        have q : V.str t = V.str "" := of_decide_eq_true h
        cases q
        rfl
      have e : linesOf t = [] := by
        unfold linesOf
        rw [if_pos e0]
      rw [e]
      exact ⟨by show 0 ≤ sizeLine; decide, fun p hp => ⟨p, rfl, Rz.Same.new (Same.refl H) hp, upd_same, (fun z hz2 => by cases hz2), Nat.zero_le _⟩⟩
    · have n0 : ¬ t.length = 0 := fun e => h (decide_eq_true (by
        congr 1
        obtain ⟨⟨cs⟩⟩ := t
        have : cs = [] := List.length_eq_zero_iff.mp e
        rw [this]
        rfl))
      have e : linesOf t = Txt.split t "\n" := by
        unfold linesOf
        rw [if_neg n0]
      rw [e]
      have many : (Txt.split t "\n").length ≤ 902 := Nat.le_trans (PyProof.Rows.split_le t "\n") (by omega)
      exact ⟨_, rfl, ⟨_, rfl⟩, _, _, rfl, rfl, rfl, by rw [sizeLine_eq]; omega, fun p hp => ⟨p, rfl, Rz.Same.new (Same.refl H) hp, upd_same, fun z hz2 => Nat.le_trans (line_len hz2) hz, many⟩⟩
  have eb : bdOf t = (match (linesOf t).findIdx? (fun z => (ruOf z).isNone) with
      | some i => .line (i + 1)
      | none => if 6 < (linesOf t).length then .full else .book ((linesOf t).filterMap ruOf)) := rfl
  rw [eb] at k
  clear eb
  rintro σ H1 ⟨p, rfl, S1, e1, ll, many⟩
  generalize linesOf t = L at k e1 ll many
  refine ⟨by show 0 ≤ sizeLine; decide, fun l hl => ?_⟩
  have hlH : H l = none := S1.free hl
  have nlp : l ≠ p := fun z => by
    rw [z, e1] at hl
    cases hl
  have S2 := Rz.Same.new (o := .lst []) S1 hl
  have e2 : upd H1 l (.lst []) p = some (.lst (L.map V.str)) := by rw [upd_ne (Ne.symm nlp)]; exact e1
  have A2 : SAt (upd H1 l (.lst [])) l [] := ⟨[], upd_same, .nil⟩
  generalize upd H1 l (.lst []) = H2 at S2 e2 A2
  refine ⟨_, rfl, lenS_go (SqL.of e2) ⟨(L.map V.str).length, rfl, by rw [List.length_map]; omega, by rw [List.length_map]; omega, ?_⟩⟩
  rw [List.length_map]
  refine for_range (n := L.length) (fun i σ H' => ∃ v3 v4 : Option V, σ = [some (.str t), some (.ref p), some (.ref l), v3, v4] ∧ Same H H' ∧ H' p = some (.lst (L.map V.str)) ∧ SAt H' l ((L.take i).filterMap ruOf) ∧ ∀ j z, j < i → L[j]? = some z → (ruOf z).isNone = false)
    ⟨none, none, rfl, S2, e2, A2, fun j z hj => absurd hj (Nat.not_lt_zero j)⟩ ?_ ?_
  · rintro i σ H3 hi ⟨v3, v4, rfl, S3, e3, A3, ok⟩
    have hi2 : i < L.length := hi
    have hL : L[i]? = some L[i] := List.getElem?_eq_getElem hi2
    generalize hzz : L[i] = z at hL
    have hzl := ll z (List.mem_of_getElem? hL)
    refine ⟨_, rfl, _, rfl, p, _, 0 + ((i : Nat) : Int), .str z, rfl, rfl, SqL.of e3, ?_, ?_⟩
    · rw [show (0 + ((i : Nat) : Int)) = ((i : Nat) : Int) by omega]
      exact atI_nat (by rw [List.getElem?_map, hL]; rfl)
    refine ⟨⟨_, rfl⟩, _, _, rfl, rfl, rfl, by rw [sizeLine_eq]; omega, fun q hq => ?_⟩
    have S4 := Rz.Same.new (o := .lst ((Txt.split z ":").map V.str)) (Same.refl H3) hq
    have e4 : upd H3 q (.lst ((Txt.split z ":").map V.str)) q = some (.lst ((Txt.split z ":").map V.str)) := upd_same
    generalize upd H3 q (.lst ((Txt.split z ":").map V.str)) = H4 at S4 e4
    have bad : ruOf z = none → ∀ (n : Int) (H5 : Hp), n = (i : Int) → Same H3 H5 → ∀ u, H5 u = none → Q (.ref u) (upd H5 u (.tup [.str "line", .int (n + 1)])) := fun hn n H5 en S5 u hu => by
      have fi : L.findIdx? (fun z => (ruOf z).isNone) = some i := by
        rw [List.findIdx?_eq_some_iff_getElem]
        refine ⟨hi2, ?_, fun j hj => ?_⟩
        · rw [hzz, hn]
          rfl
        · rw [ok j _ hj (List.getElem?_eq_getElem (Nat.lt_trans hj hi2))]
          decide
      rw [fi] at k
      refine k _ u (Rz.Same.new (S3.trans S5) hu) ?_
      show upd H5 u _ u = some (.tup [.str "line", .int ((i + 1 : Nat) : Int)])
      rw [upd_same, en]
      rfl
    refine ⟨_, rfl, lenS_go (SqL.of e4) ⟨rfl, _, rfl, ?_⟩⟩
    refine ite2 (fun h => iteT ?_) (fun h => ?_)
    · have hne : (Txt.split z ":").length ≠ 2 := fun e => by
        rw [List.length_map, e] at h
        exact absurd h (by decide)
      exact ⟨_, rfl, _, _, rfl, rfl, two, fun u hu => bad (ruOf_not hne) _ H4 (by omega) S4 u hu⟩
    have h2 : (Txt.split z ":").length = 2 := by
      rw [List.length_map] at h
      have h4 : ((Txt.split z ":").length : Int) = 2 := by simpa using h
      omega
    obtain ⟨a, b, hab⟩ : ∃ a b, Txt.split z ":" = [a, b] := by
      generalize Txt.split z ":" = M at h2
      match M, h2 with
      | [a, b], _ => exact ⟨a, b, rfl⟩
    rw [hab] at e4
    have lens := two_lens hab hzl
    have hru := ruOf_two hab
    refine ⟨_, rfl, q, _, _, .str a, rfl, rfl, SqL.of e4, rfl, a, 1, 4, rfl, by omega, _, rfl, ?_⟩
    cases ha : isT a 1 4 with
    | false =>
      refine iteT (iteT ?_)
      exact ⟨_, rfl, _, _, rfl, rfl, two, fun u hu => bad (by rw [hru, if_neg (fun h => by rw [ha] at h; cases h.1)]) _ H4 (by omega) S4 u hu⟩
    | true =>
      refine iteF ?_
      refine ⟨_, rfl, q, _, _, .str b, rfl, rfl, SqL.of e4, rfl, b, 0, 4, rfl, by omega, _, rfl, ?_⟩
      cases hb : isT b 0 4 with
      | false =>
        refine iteT ?_
        exact ⟨_, rfl, _, _, rfl, rfl, two, fun u hu => bad (by rw [hru, if_neg (fun h => by rw [hb] at h; cases h.2)]) _ H4 (by omega) S4 u hu⟩
      | true =>
        refine iteF ?_
        have hr2 : ruOf z = some (a, b) := by rw [hru, if_pos ⟨ha, hb⟩]
        have A4 := A3.same S4
        obtain ⟨t4, el4, _⟩ := id A4
        refine ⟨_, rfl, .inl ⟨rfl, _, SqL.of el4⟩, _, rfl, q, _, _, .str a, rfl, rfl, SqL.of e4, rfl, _, rfl, q, _, _, .str b, rfl, rfl, SqL.of e4, rfl, two, fun u hu => ?_⟩
        have S5 := Rz.Same.new (o := .tup [.str a, .str b]) (Same.refl H4) hu
        obtain ⟨ts, e8, P8⟩ := A4.same S5
        have lt := P8.len
        have lt2 : ((L.take i).filterMap ruOf).length ≤ L.length := Nat.le_trans (List.length_filterMap_le _ _) (by rw [List.length_take]; exact Nat.min_le_right _ _)
        have P9 : SdL (upd H4 u (.tup [.str a, .str b])) (ts ++ [u]) ((L.take i).filterMap ruOf ++ [(a, b)]) := SdL.append P8 (.cons upd_same .nil)
        have ep := (S4.trans S5) _ _ e3
        have S9 := (S3.trans S4).trans S5
        generalize upd H4 u (.tup [.str a, .str b]) = H9 at e8 P8 P9 S9 ep
        refine ⟨l, _, .ref u, rfl, rfl, e8, by rw [List.length_map, sizeLine_eq]; omega, ?_⟩
        refine ⟨_, _, rfl, Rz.Same.upd S9 hlH, by rw [upd_ne (Ne.symm nlp)]; exact ep, ⟨ts ++ [u], by rw [upd_same, List.map_append]; rfl, ?_⟩, fun j z2 hj h3 => ?_⟩
        · rw [List.take_add_one, hL, List.filterMap_append]
          have e6 : List.filterMap ruOf (some z).toList = [(a, b)] := by
            show List.filterMap ruOf [z] = _
            rw [List.filterMap_cons, hr2]
            rfl
          rw [e6]
          exact P9.keep (Tups.upd (Tups.of (Same.refl H9)) fun xs e => by rw [e8] at e; cases e)
        · by_cases ej : j < i
          · exact ok j z2 ej h3
          · have : j = i := by omega
            subst this
            rw [hL] at h3
            cases h3
            rw [hr2]
            rfl
  · rintro σ H3 ⟨v3, v4, rfl, S3, e3, A3, ok⟩
    rw [List.take_length] at A3
    have fi : L.findIdx? (fun z => (ruOf z).isNone) = none := by
      rw [List.findIdx?_eq_none_iff]
      intro z hz2
      obtain ⟨j, hj, e⟩ := List.getElem_of_mem hz2
      exact ok j z hj (by rw [List.getElem?_eq_getElem hj, e])
    have cnt : (L.filterMap ruOf).length = L.length := by
      rw [List.length_filterMap_eq_countP, List.countP_eq_length]
      intro z hz2
      obtain ⟨j, hj, e⟩ := List.getElem_of_mem hz2
      have q := ok j z hj (by rw [List.getElem?_eq_getElem hj, e])
      cases e2 : ruOf z with
      | none => rw [e2] at q; cases q
      | some _ => rfl
    rw [fi] at k
    dsimp only at k
    obtain ⟨ts, el, P⟩ := id A3
    have lt := P.len
    refine ⟨_, rfl, lenS_go (SqL.of el) ⟨_, _, rfl, rfl, _, rfl, ?_⟩⟩
    rw [List.length_map]
    by_cases h6 : 6 < L.length
    · rw [if_pos h6] at k
      rw [decide_eq_true (by omega)]
      exact iteT ⟨two, fun u hu => k _ u (Rz.Same.new S3 hu) upd_same⟩
    · rw [if_neg h6] at k
      rw [decide_eq_false (by omega)]
      refine iteF ⟨_, rfl, two, fun u hu => k _ u (Rz.Same.new S3 hu) ⟨l, upd_same, A3.same (Rz.Same.new (Same.refl H3) hu)⟩⟩
end
end Rz

namespace Rz
open PySem PySem.Spec PyProof.Rows L2
/-- what the program made of it -/
def ToldAt (cB cC : Addr) (H : Hp) (p : Addr) : BD → Prop
  | .line k => H p = some (.tup [.str "line", .int (k : Nat)])
  | .full => H p = some (.tup [.str "full", .int 0])
  | .book rs => ∃ b u, H p = some (.tup [.str "book", .ref b]) ∧ BkAt cB cC H b u rs
theorem ToldAt.same {cB cC : Addr} {H H' : Hp} {p : Addr} {o : BD} (S : Same H H') (h : ToldAt cB cC H p o) : ToldAt cB cC H' p o := by
  cases o with
  | line k => exact S _ _ h
  | full => exact S _ _ h
  | book rs => exact let ⟨c, u, e, L⟩ := h; ⟨c, u, S _ _ e, L.same S⟩
def sp_law_try_make (cB cC : Addr) : Sp := fun vs H Q _ => ∃ (tv : V) (t : Str), vs = [tv] ∧ TxA tv t ∧ t.length ≤ 900 ∧ ∀ H' p, Same H H' → ToldAt cB cC H' p (bdOf t) → Q (.ref p) H'
section
variable {w : World} {K : PySem.W.Frag} {mg : Str → Option Value} {base : Heap}
theorem sc_law_try_make : FnScope N__law_try_make P__law_try_make (defScope s__law_try_make) := ⟨rfl, rfl, rfl, by decide +kernel, rfl, by decide +kernel, by decide +kernel⟩
theorem ok_law_try_make (T : Txt K mg) : FnOk prg w K mg base (L2.CX prg w) 11 T.f__law_try_make T.fd__law_try_make P__law_try_make (sp_law_try_make T.c_Book T.c_Rule) := by
  refine T.F__law_try_make.okX sc_law_try_make (fun vs H Q E h => ?_) (fun cdv A outer s H vs Q E hr h => ?_)
  · obtain ⟨tv, t, rfl, _⟩ := h
    rfl
  obtain ⟨tv, t, rfl, htv, hz, k⟩ := h
  have nd := sc_law_try_make.nd
  refine ⟨_, (pss_cons (ps_try_mix rfl rfl takes0 (fun W pn xe tk _ => (pss_one (ps_set (i := 1) nd rfl (Or.inl rfl) (pe_cm (pe_glob (v := .ref T.c_Book) (by rfl) T.m_Book rfl) T.cr_Book_read T.M_Book_read (fnr_of (ok_Book_read T) T.b_Book_read) (hr.mono (by decide)) (passAt tk) (pa_cons (pv 0) pa_nil)))))
      (HdsM.named (i := 2) nd rfl rfl ⟨rfl, by decide, .inl T.m_BadLine⟩ (fun a oe cls d pn hz hf => (pss_one (ps_ret (pe_tup (pa_cons pe_str (pa_cons (pe_xf T.x_BadLine.xf T.x_BadLine.noN hz hf (pv 2)) pa_nil))))))
      (HdsM.plain ⟨rfl, by decide, .inl T.m_BookFull⟩ (fun a oe cls d pn hz hf => (pss_one (ps_ret (pe_tup (pa_cons pe_str (pa_cons pe_int pa_nil))))))
      HdsM.nil)))
    (pss_one (ps_ret (pe_tup (pa_cons pe_str (pa_cons (pv 1) pa_nil)))))), ?_⟩
  have two : (2 : Nat) ≤ sizeLine := by decide
  refine ⟨rfl, _, rfl, tv, t, rfl, htv, hz, ?_⟩
  generalize bdOf t = o at k
  cases o with
  | line n =>
    intro H' d S hd e
    refine ⟨true, T.em_BadLine_BadLine, fun _ a ha => ?_, fun z => nomatch z⟩
    exact ⟨_, rfl, rfl, rfl, d, _, _, rfl, e, rfl, two, fun p hp => k _ p (Rz.Same.new S hp) upd_same⟩
  | full =>
    intro H' S
    refine ⟨false, T.em_BookFull_BadLine, (fun z => nomatch z), fun _ => ⟨true, T.em_BookFull_BookFull, fun _ a ha => ?_, fun z => nomatch z⟩⟩
    exact ⟨two, fun p hp => k _ p (Rz.Same.new S hp) upd_same⟩
  | book rs =>
    intro H' b u S hb hu B
    exact ⟨_, rfl, two, fun p hp => k _ p (Rz.Same.new S hp) ⟨b, u, upd_same, B.same (Rz.Same.new (Same.refl H') hp)⟩⟩
end
end Rz

namespace Rz
open PySem PySem.Spec PyProof.Rows L2
/-! ### lists of pairs of texts, compared -/
theorem sds_lay : ∀ {rs : List Ru}, GoodB rs → PyData.canLayAll0 (rs.map dSd) = true
  | [], _ => rfl
  | r :: rs, h => by
    have g := rd_fo (h r List.mem_cons_self)
    have a : PyData.canLay0 (dSd r) = true := by
      show PyData.canLayAll0 [PyData.str r.1, PyData.str r.2] = true
      simp [PyData.canLayAll0, PyData.canLay0, strOk_of g.1, strOk_of g.2]
    have b := sds_lay (rs := rs) fun q hq => h q (List.mem_cons_of_mem _ hq)
    simp only [List.map_cons, PyData.canLayAll0, a, b, Bool.and_self]
theorem sds_depth : ∀ rs : List Ru, PyData.depthAll (rs.map dSd) ≤ 1
  | [] => by simp [PyData.depthAll]
  | r :: rs => by
    have b := sds_depth rs
    simp only [List.map_cons, PyData.depthAll]
    have a : PyData.depth (dSd r) = 1 := by simp [PyData.depth, PyData.depthAll]
    rw [a]
    omega
theorem sds_shaped {rs : List Ru} (h : GoodB rs) : SeqAt.shaped (dSds rs) = true := by
  have d : PyData.depth (dSds rs) ≤ 64 := by
    have := sds_depth rs
    show PyData.depthAll (rs.map dSd) + 1 ≤ 64
    omega
  show (PyData.canLayAll0 (rs.map dSd) && decide (PyData.depth (dSds rs) ≤ 64)) = true
  rw [sds_lay h, decide_eq_true d]
  rfl
theorem sds_eqv : ∀ rs : List Ru, PyData.eqvAll (rs.map dSd) (rs.map dSd) = true
  | [] => rfl
  | r :: rs => by
    have a : PyData.eqv (dSd r) (dSd r) = true := by
      show PyData.eqvAll _ _ = true
      simp [PyData.eqvAll, PyData.eqv]
    simp only [List.map_cons, PyData.eqvAll, a, sds_eqv rs, Bool.and_self]
end Rz

namespace Rz
open PySem PySem.Spec PyProof.Rows L2
def sp_law_same (cB cC : Addr) : Sp := fun vs H Q _ => ∃ (p u : Addr) (t : Str) (o : BD), vs = [.ref p, .ref u, .str t] ∧ ToldAt cB cC H p o ∧ DueAt H u o ∧ (∀ rs, o = .book rs → GoodB rs ∧ rs.length ≤ 6 ∧ wrT rs = t) ∧ ∀ H', Same H H' → Q (.bl true) H'
section
variable {w : World} {K : PySem.W.Frag} {mg : Str → Option Value} {base : Heap}
theorem sc_law_same : FnScope N__law_same P__law_same (defScope s__law_same) := ⟨rfl, rfl, rfl, by decide +kernel, rfl, by decide +kernel, by decide +kernel⟩
theorem ok_law_same (T : Txt K mg) : FnOk prg w K mg base (L2.CX prg w) 7 T.f__law_same T.fd__law_same P__law_same (sp_law_same T.c_Book T.c_Rule) := by
  refine Rz.Fun.okN T.F__law_same sc_law_same (fun vs H Q E h => ?_) (fun cdv A outer s H vs Q E hr h => ?_)
  · obtain ⟨p, u, t, o, rfl, _⟩ := h
    rfl
  obtain ⟨p, u, t, o, rfl, hT, hU, hgo, k⟩ := h
  have nd := sc_law_same.nd
  have two : (2 : Nat) ≤ sizeLine := by decide
  refine ⟨_, (pss_cons (ps_if (pt_cmpR op_ne (pe_ix ix_tup (pv 0) pe_int (fun _ _ => rfl)) (pe_ix ix_tup (pv 1) pe_int (fun _ _ => rfl)) (nomark _)) (pss_one (ps_ret pe_bl)) pss_nil)
    (pss_cons (ps_if (pt_cmpR op_ne (pe_ix ix_tup (pv 1) pe_int (fun _ _ => rfl)) pe_str (nomark _)) (pss_one (ps_ret (pe_and (pe_fn (ok_law_is_int T) (hr.mono (by decide)) (by rfl) T.m__law_is_int T.F__law_is_int.kp T.b__law_is_int .nil (fun _ => atN _) (pa_cons (pe_ix ix_tup (pv 0) pe_int (fun _ _ => rfl)) pa_nil)) (pe_one (pe_cmpR op_eq (pe_ix ix_tup (pv 0) pe_int (fun _ _ => rfl)) (pe_ix ix_tup (pv 1) pe_int (fun _ _ => rfl)) (nomark _)))))) pss_nil)
    (pss_cons (ps_set (i := 3) nd rfl (Or.inl rfl) (pe_ix ix_tup (pv 0) pe_int (fun _ _ => rfl)))
    (pss_cons (ps_if (pt_cmpR (op_neD hr.units) (pe_lc (own := [("_law_rule", 4)]) (g := (gName 4)) (tt := tYes) rfl nd (pi_ownT T.M_Book_iter (ok_Book_iter T) (hr.mono (by decide)) (pv 3)) (blkOk_by (N := N__law_same) (sc := defScope s__law_same) (by decide +kernel)) (fun _ _ _ _ _ => (pg_name (i := 4) nd rfl (Or.inl rfl))) (fun _ _ _ _ _ => pts_nil) (fun _ _ _ _ _ => (pe_tup (pa_cons (show PE _ _ (tFld K (tVar 4) "left") from pe_fld (pv 4) rfl) (pa_cons (show PE _ _ (tFld K (tVar 4) "right") from pe_fld (pv 4) rfl) pa_nil))))) (pe_ix ix_tup (pv 1) pe_int (fun _ _ => rfl)) (nomark _)) (pss_one (ps_ret pe_bl)) pss_nil)
    (pss_one (ps_ret (pe_and (pe_callB call_isi (by rfl) T.n_isinstance (by decide +kernel) (pa_cons (pe_mt0 (pv 3) T.cl_Book T.M_Book_written (ok_Book_written T) (hr.mono (by decide)) T.b_Book_written .nil (fun _ => atN _)) (pa_cons (pe_bltn (v := .ty "str") (by rfl) T.n_str (by decide +kernel) rfl) pa_nil))) (pe_one (pe_cmpR op_eq (pe_mt0 (pv 3) T.cl_Book T.M_Book_written (ok_Book_written T) (hr.mono (by decide)) T.b_Book_written .nil (fun _ => atN _)) (pv 2) (nomark _)))))))))), ?_⟩
  cases o with
  | line n =>
    have hp : H p = some (.tup [.str "line", .int (n : Nat)]) := hT
    have hu : H u = some (.tup [.str "line", .int (n : Nat)]) := hU
    refine ⟨_, rfl, p, _, _, .str "line", rfl, rfl, SqT.of hp, rfl, _, rfl, u, _, _, .str "line", rfl, rfl, SqT.of hu, rfl, rfl, _, rfl, iteF ?_⟩
    refine ⟨_, rfl, u, _, _, .str "line", rfl, rfl, SqT.of hu, rfl, rfl, _, rfl, iteT ?_⟩
    refine ⟨_, rfl, p, _, _, .int (n : Nat), rfl, rfl, SqT.of hp, rfl, _, rfl, _, rfl, iteT ?_⟩
    refine ⟨_, rfl, p, _, _, .int (n : Nat), rfl, rfl, SqT.of hp, rfl, _, rfl, u, _, _, .int (n : Nat), rfl, rfl, SqT.of hu, rfl, rfl, ?_⟩
    rw [decide_eq_true rfl]
    exact k H (Same.refl H)
  | full =>
    have hp : H p = some (.tup [.str "full", .int 0]) := hT
    have hu : H u = some (.tup [.str "full", .int 0]) := hU
    refine ⟨_, rfl, p, _, _, .str "full", rfl, rfl, SqT.of hp, rfl, _, rfl, u, _, _, .str "full", rfl, rfl, SqT.of hu, rfl, rfl, _, rfl, iteF ?_⟩
    refine ⟨_, rfl, u, _, _, .str "full", rfl, rfl, SqT.of hu, rfl, rfl, _, rfl, iteT ?_⟩
    refine ⟨_, rfl, p, _, _, .int 0, rfl, rfl, SqT.of hp, rfl, _, rfl, _, rfl, iteT ?_⟩
    refine ⟨_, rfl, p, _, _, .int 0, rfl, rfl, SqT.of hp, rfl, _, rfl, u, _, _, .int 0, rfl, rfl, SqT.of hu, rfl, rfl, ?_⟩
    rw [decide_eq_true rfl]
    exact k H (Same.refl H)
  | book rs =>
    obtain ⟨hg, h6, ew⟩ := hgo rs rfl
    obtain ⟨b, bt, hp, hB⟩ : ∃ b u, H p = some (.tup [.str "book", .ref b]) ∧ BkAt T.c_Book T.c_Rule H b u rs := hT
    obtain ⟨l, hu, hS⟩ : ∃ l, H u = some (.tup [.str "book", .ref l]) ∧ SAt H l rs := hU
    refine ⟨_, rfl, p, _, _, .str "book", rfl, rfl, SqT.of hp, rfl, _, rfl, u, _, _, .str "book", rfl, rfl, SqT.of hu, rfl, rfl, _, rfl, iteF ?_⟩
    refine ⟨_, rfl, u, _, _, .str "book", rfl, rfl, SqT.of hu, rfl, rfl, _, rfl, iteF ?_⟩
    refine ⟨_, rfl, p, _, _, .ref b, rfl, rfl, SqT.of hp, rfl, ?_⟩
    obtain ⟨dx, ts, hb, ht, hP⟩ := id hB
    refine ⟨_, rfl, b, bt, dx, _, ts.map V.ref, rfl, hb, ⟨dx, _, hb, ht⟩, SqT.of ht, fun D hD => lc_tup (K := K) (a := bt) (xs := ts.map V.ref) (fun i H3 => Same H H3 ∧ ∃ ps : List Addr, H3 D = some (.lst (ps.map V.ref)) ∧ SdL H3 ps (rs.take i)) ⟨Rz.Same.new (Same.refl H) hD, [], upd_same, .nil⟩ (fun i H3 _ h => SqT.of (h.1 _ _ ht)) ?_ ?_⟩
    · rintro i x H3 hx ⟨S3, ps, e3, P3⟩
      obtain ⟨v, hv, rfl⟩ := refs_get hx
      obtain ⟨r, hr2, ⟨dq, eu⟩⟩ := hP.get hv
      have hi : i < rs.length := (List.getElem?_eq_some_iff.mp hr2).1
      have lt := P3.len
      rw [List.length_take] at lt
      have eu3 := S3 _ _ eu
      refine ⟨rfl, yesT ⟨_, rfl, v, _, dq, _, _, rfl, eu3, T.cl_Rule, T.na_Rule_left, rfl, _, rfl, v, _, dq, _, _, rfl, eu3, T.cl_Rule, T.na_Rule_right, rfl, two, fun q hq => ?_⟩⟩
      have S4 := Rz.Same.new (o := .tup [.str r.1, .str r.2]) (Same.refl H3) hq
      have e4 := S4 _ _ e3
      have P4 : SdL (upd H3 q (.tup [.str r.1, .str r.2])) (ps ++ [q]) (rs.take (i + 1)) := by
        rw [List.take_add_one, hr2]
        exact SdL.append (P3.keep (.of S4)) (.cons upd_same .nil)
      generalize upd H3 q (.tup [.str r.1, .str r.2]) = H4 at S4 e4 P4
      exact ⟨_, e4, by rw [List.length_map, sizeLine_eq]; omega, Rz.Same.upd (S3.trans S4) hD, ps ++ [q], by rw [upd_same, List.map_append]; rfl, P4.keep (Tups.upd (Tups.of (Same.refl H4)) fun xs e => by rw [e4] at e; cases e)⟩
    rintro H1 ⟨S1, ps, e1, P1⟩
    rw [List.length_map, hP.len, List.take_length] at P1
    have A1 : SAt H1 D rs := ⟨ps, e1, P1⟩
    refine ⟨_, rfl, u, _, _, .ref l, rfl, rfl, SqT.of (S1 _ _ hu), rfl, dSds rs, dSds rs, sds_at A1, sds_at (hS.same S1), sds_shaped hg, sds_shaped hg, _, rfl, ?_⟩
    rw [show PyData.eqv (dSds rs) (dSds rs) = true from sds_eqv rs]
    refine iteF ?_
    refine ⟨_, rfl, b, dx, _, rfl, S1 _ _ hb, rfl, b, bt, rs, rfl, hB.same S1, hg, h6, fun H2 S2 => ?_⟩
    have S02 := S1.trans S2
    refine ⟨_, _, .type "str", .type "str", true, rfl, .ty _, .base (.str _), kit_ty (by decide +kernel), true, rfl, iteT ?_⟩
    refine ⟨_, rfl, b, dx, _, rfl, S02 _ _ hb, rfl, b, bt, rs, rfl, hB.same S02, hg, h6, fun H3 S3 => ⟨_, rfl, rfl, ?_⟩⟩
    rw [ew, decide_eq_true rfl]
    exact k H3 (S02.trans S3)
end
end Rz

namespace Rz
open PySem PySem.Spec PyProof.Rows L2
def sp_law_first_bad : Sp := fun vs H Q _ => ∃ z : Str, vs = [.byt (PySem.W.KSb.enc z)] ∧ PySem.W.KSb.Asc z ∧ z.length ≤ 900 ∧
  (match fo z with
    | some i => ∀ H' p, Same H H' → H' p = some (.tup [.str "sign", .int (i : Nat)]) → Q (.ref p) H'
    | none => ∀ H' p, Same H H' → H' p = some (.tup [.str "row", .int (z.length : Nat)]) → Q (.ref p) H')
theorem rr_zeros {z : Str} (h : fo z = none) : rr z (List.replicate z.length 0) = .row := by
  unfold rr
  rw [h]
  dsimp only
  rw [if_neg (by rw [List.length_replicate]; simp)]
  have e : (List.replicate z.length (0 : Int)).find? badH = none := by
    rw [List.find?_eq_none]
    intro n hn
    rw [(List.mem_replicate.mp hn).2]
    decide
  rw [e]
theorem rr_sign {z : Str} {i : Nat} {ns : List Int} (h : fo z = some i) : rr z ns = .sign i := by
  unfold rr
  rw [h]
section
variable {w : World} {K : PySem.W.Frag} {mg : Str → Option Value} {base : Heap}
theorem sc_law_first_bad : FnScope N__law_first_bad P__law_first_bad (defScope s__law_first_bad) := ⟨rfl, rfl, rfl, by decide +kernel, rfl, by decide +kernel, by decide +kernel⟩
theorem ok_law_first_bad (T : Txt K mg) : FnOk prg w K mg base (L2.CX prg w) 7 T.f__law_first_bad T.fd__law_first_bad P__law_first_bad sp_law_first_bad := by
  refine T.F__law_first_bad.okX sc_law_first_bad (fun vs H Q E h => ?_) (fun cdv A outer s H vs Q E hr h => ?_)
  · obtain ⟨z, rfl, _⟩ := h
    rfl
  obtain ⟨z, rfl, ha, hz, k⟩ := h
  have nd := sc_law_first_bad.nd
  obtain ⟨ds, vd, bd⟩ := bd_Row_init_2 T
  have two : (2 : Nat) ≤ sizeLine := by decide
  refine ⟨_, (pss_one (ps_try_mix rfl rfl takes0 (fun W pn xe tk _ => (pss_one (ps_ret (pe_tup (pa_cons pe_str (pa_cons (pe_callB (call_lenO T.M_Row_len (ok_Row_len T) (hr.mono (by decide)) T.b_Row_len) (by rfl) T.n_len PySem.boot_len (pa_cons (pe_mkR ⟨T.mk_Row, T.M_Row_init.at_, T.M_Row_init.fn, T.kp_Row⟩ (ok_Row_init T) (hr.mono (by decide)) (by rfl) T.m_Row bd vd (passAt tk) (pa_cons (pv 0) pa_nil)) pa_nil)) pa_nil))))))
      (HdsM.named (i := 1) nd rfl rfl ⟨rfl, by decide, .inl T.m_BadSign⟩ (fun a oe cls d pn hz hf => (pss_one (ps_ret (pe_tup (pa_cons pe_str (pa_cons (pe_xf T.x_BadSign.xf T.x_BadSign.noN hz hf (pv 1)) pa_nil))))))
      HdsM.nil))), ?_⟩
  refine ⟨_, rfl, ?_⟩
  show MkR _ _ _ _ _ _ _
  rw [mkR_eq]
  intro x dx hx hdx ndx
  have S0 : ∀ {H' : Hp}, But [x] (upd (upd H dx (.own x)) x (.ins T.c_Row dx [])) H' → Same H H' := fun {H'} B b o e => B b o (by
    have := ne_of_none e hx
    simpa using this) (by rw [upd_ne (ne_of_none e hx), upd_ne (ne_of_none e hdx)]; exact e)
  refine ⟨x, dx, .byt (PySem.W.KSb.enc z), z, .non, List.replicate z.length 0, rfl, .inr ⟨rfl, ha⟩, by omega, upd_same, .inl ⟨rfl, rfl⟩, ?_⟩
  cases hf : fo z with
  | some i =>
    rw [hf] at k
    rw [rr_sign hf]
    intro H' d B hd e
    refine ⟨true, T.em_BadSign_BadSign, fun _ a ha => ?_, fun z => nomatch z⟩
    exact ⟨_, rfl, rfl, rfl, d, _, _, rfl, e, rfl, two, fun p hp => k _ p (Rz.Same.new (S0 B) hp) upd_same⟩
  | none =>
    rw [hf] at k
    rw [rr_zeros hf]
    intro H' m B hm hR
    have len : (z.cps.toList.zip (List.replicate z.length (0 : Int))).length = z.length := by
      rw [List.length_zip, List.length_replicate, len_list]
      exact Nat.min_self _
    obtain ⟨dx2, e2, _⟩ := id hR
    refine ⟨rfl, x, dx2, _, rfl, e2, x, m, _, rfl, hR, _, rfl, by rw [len]; omega, two, fun p hp => ?_⟩
    rw [len]
    exact k _ p (Rz.Same.new (S0 B) hp) upd_same
end
end Rz

namespace Rz
open PySem PySem.Spec PyProof.Rows L2
def sp_law_change : Sp := fun vs H Q _ => ∃ (d : Addr) (z y : Str), vs = [.ref d, .str z, .str y] ∧ z.length ≤ 20 ∧ 0 < y.length ∧ y.length ≤ 1000 ∧ Dr H d ∧ ∀ H' (x : Str), x.length ≤ 60 → Dr H' d → But [d] H H' → Q (.str x) H'
section
variable {w : World} {K : PySem.W.Frag} {mg : Str → Option Value} {base : Heap}
theorem sc_law_change : FnScope N__law_change P__law_change (defScope s__law_change) := ⟨rfl, rfl, rfl, by decide +kernel, rfl, by decide +kernel, by decide +kernel⟩
theorem ok_law_change (T : Txt K mg) : FnOk prg w K mg base (L2.CX prg w) 3 T.f__law_change T.fd__law_change P__law_change sp_law_change := by
  refine Rz.Fun.okN T.F__law_change sc_law_change (fun vs H Q E h => ?_) (fun cdv A outer s H vs Q E hr h => ?_)
  · obtain ⟨d, z, y, rfl, _⟩ := h
    rfl
  obtain ⟨d, z, y, rfl, hz, hy0, hy1, hD, k⟩ := h
  have nd := sc_law_change.nd
  refine ⟨_, (pss_cons (ps_set (i := 3) nd rfl (Or.inl rfl) (pe_fn (ok_law_pick T) (hr.mono (by decide)) (by rfl) T.m__law_pick T.F__law_pick.kp T.b__law_pick .nil (fun _ => atN _) (pa_cons (pv 0) (pa_cons (pe_op op_add (pe_callB call_len_str (by rfl) T.n_len PySem.boot_len (pa_cons (pv 1) pa_nil)) pe_int) pa_nil))))
    (pss_cons (ps_set (i := 4) nd rfl (Or.inl rfl) (pe_fn (ok_law_odd_sign T) (hr.mono (by decide)) (by rfl) T.m__law_odd_sign T.F__law_odd_sign.kp T.b__law_odd_sign .nil (fun _ => atN _) (pa_cons (pv 0) pa_nil)))
    (pss_cons (ps_set (i := 5) nd rfl (Or.inl rfl) (pe_fn (ok_law_word_of T) (hr.mono (by decide)) (by rfl) T.m__law_word_of T.F__law_word_of.kp T.b__law_word_of .nil (fun _ => atN _) (pa_cons (pv 0) (pa_cons (pv 2) (pa_cons pe_int (pa_cons pe_int pa_nil))))))
    (pss_cons (ps_set (i := 6) nd rfl (Or.inl rfl) (pe_lst (pa_lit (pat_cons (pet_rep (pv 1)) (pat_of (pa_cons (pe_op op_add_str (pe_op op_add_str (pe_slice sl_str (pv 1) po_none (po_some (pv 3))) pe_str) (pe_slice sl_str (pv 1) (po_some (pv 3)) po_none)) (pa_cons pe_str (pa_cons (pe_op op_add_str (pv 5) pe_str) (pa_cons (pe_op op_add_str (pv 1) (pv 5)) (pa_cons (pe_op op_add_str pe_str (pv 5)) pa_nil))))))))))
    (pss_cons (ps_set (i := 6) nd rfl (Or.inl rfl) (pe_op op_cat (pv 6) (pe_lst (pa_cons (pe_op op_add_str (pe_op op_add_str (pe_slice sl_str (pv 1) po_none (po_some (pv 3))) (pv 4)) (pe_slice sl_str (pv 1) (po_some (pv 3)) po_none)) (pa_cons (pe_op op_add_str (pv 1) pe_str) (pa_cons (pe_op op_add_str (pv 1) pe_str) pa_nil))))))
    (pss_one (ps_ret (pe_ix ix_list (pv 6) (pe_fn (ok_law_pick T) (hr.mono (by decide)) (by rfl) T.m__law_pick T.F__law_pick.kp T.b__law_pick .nil (fun _ => atN _) (pa_cons (pv 0) (pa_cons (pe_callB call_lenS (by rfl) T.n_len PySem.boot_len (pa_cons (pv 6) pa_nil)) pa_nil))) (fun _ _ => rfl))))))))), ?_⟩
  have sz : ∀ {n : Nat}, n ≤ 1000 → n ≤ sizeLine := fun h => by rw [sizeLine_eq]; omega
  refine ⟨_, rfl, _, rfl, z, rfl, sz (by omega), _, _, rfl, rfl, d, _, rfl, by omega, hD, fun H1 r h0 h1 D1 B1 => ?_⟩
  have c1 := cutS_length z none (some r)
  have c2 := cutS_length z (some r) none
  refine ⟨_, rfl, d, rfl, D1, fun H2 c D2 B2 => ?_⟩
  refine ⟨_, rfl, _, rfl, d, y, 5, 7, rfl, by decide, by decide, by decide, hy0, hy1, D2, fun H3 f f5 f7 of D3 B3 => ?_⟩
  have B03 := (B1.trans B2).trans B3
  have rl := TK.replace_len z ":" ""
  have rl2 : (Txt.replace z ":" "").length ≤ 20 := by
    have e : ("" : Str).length = 0 := rfl
    rw [e, Nat.mul_zero] at rl
    omega
  refine ⟨_, rfl, z, rfl, by decide, by show z.length + (z.length + 1) * 0 ≤ _; omega, ?_⟩
  have l1 : ∀ n : Nat, n ≤ 1000 → n ≤ sizeLine := fun n h => sz h
  have f7n : f.length ≤ 7 := by omega
  have e1 : (":" : Str).length = 1 := rfl
  have e2 : (" " : Str).length = 1 := rfl
  have e3 : ("\n" : Str).length = 1 := rfl
  have ec : (⟨#[c]⟩ : Str).length = 1 := rfl
  refine ⟨_, rfl, _, rfl, r, rfl, z, rfl, sz (by omega), _, _, rfl, rfl, sz (by rw [e1]; omega), _, rfl, _, rfl, r, rfl, z, rfl, sz (by omega), _, _, rfl, rfl, sz (by rw [Str.length_append, e1]; omega), _, rfl, _, _, rfl, rfl, sz (by rw [e1]; omega), _, rfl, _, rfl, _, _, rfl, rfl, sz (by omega), _, rfl, _, _, rfl, rfl, sz (by rw [e1]; omega), by show 7 ≤ sizeLine; decide, fun p hp => ?_⟩
  have ndp : d ≠ p := apartNew D3.some hp
  obtain ⟨ks, S4, e4, lk⟩ : ∃ ks : List Str, Same H3 (upd H3 p (.lst ((["", Txt.replace z ":" "", cutS z none (some r) ++ ":" ++ cutS z (some r) none, ":", f ++ ":", z ++ f, ":" ++ f] : List Str).map V.str))) ∧ upd H3 p (.lst ((["", Txt.replace z ":" "", cutS z none (some r) ++ ":" ++ cutS z (some r) none, ":", f ++ ":", z ++ f, ":" ++ f] : List Str).map V.str)) p = some (.lst (ks.map V.str)) ∧ ks.length = 7 ∧ ∀ x ∈ ks, x.length ≤ 60 := by
    refine ⟨_, Rz.Same.new (Same.refl H3) hp, upd_same, rfl, fun x hx => ?_⟩
    simp only [List.mem_cons, List.not_mem_nil, or_false] at hx
    rcases hx with rfl | rfl | rfl | rfl | rfl | rfl | rfl <;> (try rw [Str.length_append]) <;> (try rw [Str.length_append]) <;> (try rw [e1]) <;> first | omega | (show 0 ≤ 60; omega)
  have D4 := D3.same S4
  have B4 := B03.trans (But.of S4)
  show gName 6 (V.ref p) _ (upd H3 p (.lst ((["", Txt.replace z ":" "", cutS z none (some r) ++ ":" ++ cutS z (some r) none, ":", f ++ ":", z ++ f, ":" ++ f] : List Str).map V.str))) _
  generalize upd H3 p (.lst ((["", Txt.replace z ":" "", cutS z none (some r) ++ ":" ++ cutS z (some r) none, ":", f ++ ":", z ++ f, ":" ++ f] : List Str).map V.str)) = H4 at S4 e4 D4 B4
  obtain ⟨nks, lks⟩ := lk
  refine ⟨_, rfl, _, rfl, _, rfl, r, rfl, z, rfl, sz (by omega), _, rfl, _, _, rfl, rfl, sz (by rw [ec]; omega), _, rfl, _, rfl, r, rfl, z, rfl, sz (by omega), _, _, rfl, rfl, sz (by rw [Str.length_append, ec]; omega), _, rfl, _, _, rfl, rfl, sz (by rw [e2]; omega), _, rfl, _, _, rfl, rfl, sz (by rw [e3]; omega), by show 3 ≤ sizeLine; decide, fun p2 hp2 => ?_⟩
  obtain ⟨js, S5, e5, njs, ljs⟩ : ∃ js : List Str, Same H4 (upd H4 p2 (.lst (([cutS z none (some r) ++ ⟨#[c]⟩ ++ cutS z (some r) none, z ++ " ", z ++ "\n"] : List Str).map V.str))) ∧ upd H4 p2 (.lst (([cutS z none (some r) ++ ⟨#[c]⟩ ++ cutS z (some r) none, z ++ " ", z ++ "\n"] : List Str).map V.str)) p2 = some (.lst (js.map V.str)) ∧ js.length = 3 ∧ ∀ x ∈ js, x.length ≤ 60 := by
    refine ⟨_, Rz.Same.new (Same.refl H4) hp2, upd_same, rfl, fun x hx => ?_⟩
    simp only [List.mem_cons, List.not_mem_nil, or_false] at hx
    rcases hx with rfl | rfl | rfl <;> (try rw [Str.length_append]) <;> (try rw [Str.length_append]) <;> (try rw [ec]) <;> (try rw [e2]) <;> (try rw [e3]) <;> omega
  have D5 := D4.same S5
  have B5 := B4.trans (But.of S5)
  have e45 := S5 _ _ e4
  show rCat (V.ref p) (V.ref p2) (upd H4 p2 (.lst (([cutS z none (some r) ++ ⟨#[c]⟩ ++ cutS z (some r) none, z ++ " ", z ++ "\n"] : List Str).map V.str))) _
  generalize upd H4 p2 (.lst (([cutS z none (some r) ++ ⟨#[c]⟩ ++ cutS z (some r) none, z ++ " ", z ++ "\n"] : List Str).map V.str)) = H5 at S5 e5 D5 B5 e45
  refine ⟨p, p2, ks.map V.str, js.map V.str, rfl, rfl, e45, e5, by rw [List.length_map, List.length_map, nks, njs]; decide, fun q hq => ?_⟩
  have S6 := Rz.Same.new (o := .lst (ks.map V.str ++ js.map V.str)) (Same.refl H5) hq
  have e6 : upd H5 q (.lst (ks.map V.str ++ js.map V.str)) q = some (.lst ((ks ++ js).map V.str)) := by rw [upd_same, List.map_append]
  have ndq : d ≠ q := apartNew D5.some hq
  have D6 := D5.same S6
  have B6 := B5.trans (But.of S6)
  generalize upd H5 q (.lst (ks.map V.str ++ js.map V.str)) = H6 at S6 e6 D6 B6
  have n10 : ((ks ++ js).map V.str).length = 10 := by rw [List.length_map, List.length_append, nks, njs]
  refine ⟨_, rfl, _, rfl, _, rfl, lenS_go (SqL.of e6) ⟨d, _, rfl, by rw [n10]; decide, D6, fun H7 x x0 x1 D7 B7 => ?_⟩⟩
  obtain ⟨v, hv, hat⟩ := atI_in (xs := (ks ++ js).map V.str) x0 x1
  obtain ⟨g, hg, rfl⟩ := List.mem_map.mp hv
  have e7 := B7.at e6 (nin1 (Ne.symm ndq))
  refine ⟨q, _, x, _, rfl, rfl, SqL.of e7, hat, k H7 g ?_ D7 (B6.trans B7)⟩
  rcases List.mem_append.mp hg with h | h
  · exact lks g h
  · exact ljs g h
end
end Rz

namespace Rz
open PySem PySem.Spec PyProof.Rows L2
/-! ### a book's text, told by its lines -/
theorem ruOf_line {z : Str} {r : Ru} (h : ruOf z = some r) : ruleT r.1 r.2 = z := by
  have g := good_ruOf h
  have e : Txt.split z ":" = [r.1, r.2] := by
    unfold ruOf at h
    split at h
    · rename_i l r2 e
      split at h
      · cases h
        exact e
      · cases h
    · cases h
  rw [ruleT_join, TL.join_eq, ← e]
  exact StrLaws.join_split z ":"
theorem rus_lines : ∀ {L : List Str}, (∀ z ∈ L, (ruOf z).isNone = false) → ((L.filterMap ruOf).map fun r => ruleT r.1 r.2) = L
  | [], _ => rfl
  | z :: L, h => by
    have a := h z List.mem_cons_self
    have b := rus_lines (L := L) fun y hy => h y (List.mem_cons_of_mem _ hy)
    cases e : ruOf z with
    | none => rw [e] at a; cases a
    | some r => rw [List.filterMap_cons, e, List.map_cons, ruOf_line e, b]
theorem str_nil {z : Str} (h : z.length = 0) : z = "" := by
  obtain ⟨⟨cs⟩⟩ := z
  have : cs = [] := List.length_eq_zero_iff.mp h
  rw [this]
  rfl
theorem book_facts {t : Str} {rs : List Ru} (h : bdOf t = .book rs) : GoodB rs ∧ rs.length ≤ 6 ∧ wrT rs = t := by
  unfold bdOf at h
  cases e : (linesOf t).findIdx? (fun z => (ruOf z).isNone) with
  | some i => rw [e] at h; cases h
  | none =>
    rw [e] at h
    dsimp only at h
    by_cases h6 : 6 < (linesOf t).length
    · rw [if_pos h6] at h
      cases h
    rw [if_neg h6] at h
    injection h with h
    rw [List.findIdx?_eq_none_iff] at e
    have ml := rus_lines e
    rw [h] at ml
    refine ⟨fun r hr => ?_, ?_, ?_⟩
    · rw [← h] at hr
      obtain ⟨z, hz, ez⟩ := List.mem_filterMap.mp hr
      exact good_ruOf ez
    · have := congrArg List.length ml
      rw [List.length_map] at this
      omega
    · unfold wrT
      rw [ml]
      unfold linesOf
      by_cases h0 : t.length = 0
      · rw [if_pos h0, str_nil h0]
        rfl
      · rw [if_neg h0, TL.join_eq]
        exact StrLaws.join_split t "\n"
theorem bd_empty : bdOf "" = .book [] := rfl
end Rz
namespace Rz
open PySem PySem.Spec PyProof.Rows L2
theorem find_colon {z : Str} {i : Nat} (h1 : z.cps.toList[i]? = some 58) (h2 : ∀ (j c : Nat), j < i → z.cps.toList[j]? = some c → c ≠ 58) : Txt.find z ":" = (i : Int) := by
  have ec : (":" : Str) = ⟨#[58]⟩ := rfl
  rw [ec]
  have one := fun k => StrLaws.subAt_one z 58 k
  rcases find_whole z ⟨#[58]⟩ with ⟨_, no⟩ | ⟨k, e, hk, least⟩
  · exact absurd ((one i).mpr h1) (no i)
  · rw [e]
    have hk2 := (one k).mp hk
    rcases Nat.lt_trichotomy k i with q | q | q
    · exact absurd rfl (h2 k 58 q hk2)
    · rw [q]
    · exact absurd ((one i).mpr h1) (least i q)
theorem ruleT_list (l r : Str) : (ruleT l r).cps.toList = l.cps.toList ++ 58 :: r.cps.toList := by
  rw [ruleT_join, TL.join_eq]
  exact TL.tl_join ":" [l, r]
theorem first_colon (r : Ru) (rs : List Ru) : ∃ rest, (wrT (r :: rs)).cps.toList = r.1.cps.toList ++ 58 :: rest := by
  rw [wrT_listA]
  cases rs with
  | nil => exact ⟨r.2.cps.toList, ruleT_list r.1 r.2⟩
  | cons q rs =>
    refine ⟨r.2.cps.toList ++ ([10] ++ TL.joinL [10] (((q :: rs).map fun r => ruleT r.1 r.2).map fun y => y.cps.toList)), ?_⟩
    show (ruleT r.1 r.2).cps.toList ++ _ = _
    rw [ruleT_list, List.append_assoc]
    rfl
theorem book_sign {rs : List Ru} (hg : GoodB rs) (n : rs ≠ []) : ∃ i : Nat, fo (wrT rs) = some i ∧ Txt.find (wrT rs) ":" = (i : Int) := by
  match rs, n with
  | r :: rs, _ =>
    have g := hg r List.mem_cons_self
    obtain ⟨rest, e⟩ := first_colon r rs
    have at1 : (wrT (r :: rs)).cps.toList[r.1.cps.toList.length]? = some 58 := by rw [e]; simp
    have low : ∀ (j c : Nat), j < r.1.cps.toList.length → (wrT (r :: rs)).cps.toList[j]? = some c → c ∈ abc.cps.toList := fun j c hj hc => by
      rw [e, List.getElem?_append_left hj] at hc
      exact fo_in (rd_good g).1 c (List.mem_of_getElem? hc)
    have n58 : 58 ∉ abc.cps.toList := by decide +kernel
    refine ⟨_, fo_some at1 (by decide +kernel) fun j c hj hc => ?_, find_colon at1 fun j c hj hc z => n58 (z ▸ low j c hj hc)⟩
    unfold oddC
    rw [decide_eq_true (low j c hj hc)]
    rfl
end Rz

namespace Rz
open PySem PySem.Spec PyProof.Rows L2
/-! ### data: lists of texts, a text and a number -/
abbrev dStrs (xs : List Str) : PyData := .list (xs.map PyData.str)
theorem strs_lay : ∀ {xs : List Str}, (∀ x ∈ xs, PyData.strOk x = true) → PyData.canLayAll0 (xs.map PyData.str) = true
  | [], _ => rfl
  | x :: xs, h => by
    have a := h x List.mem_cons_self
    have b := strs_lay (xs := xs) fun y hy => h y (List.mem_cons_of_mem _ hy)
    simp only [List.map_cons, PyData.canLayAll0, PyData.canLay0, a, b, Bool.and_self]
theorem strs_depth : ∀ xs : List Str, PyData.depthAll (xs.map PyData.str) = 0
  | [] => by simp [PyData.depthAll]
  | x :: xs => by simp only [List.map_cons, PyData.depthAll, PyData.depth, strs_depth xs, Nat.max_self]
theorem strs_shaped {xs : List Str} (h : ∀ x ∈ xs, PyData.strOk x = true) : SeqAt.shaped (dStrs xs) = true := by
  have d : PyData.depth (dStrs xs) ≤ 64 := by
    show PyData.depthAll (xs.map PyData.str) + 1 ≤ 64
    rw [strs_depth]
    decide
  show (PyData.canLayAll0 (xs.map PyData.str) && decide (PyData.depth (dStrs xs) ≤ 64)) = true
  rw [strs_lay h, decide_eq_true d]
  rfl
theorem dp_strsA {K : PySem.W.Frag} {H : Hp} : ∀ xs : List Str, DpAll K H (xs.map V.str) (xs.map PyData.str)
  | [] => .nil
  | x :: xs => .cons (.str x) (dp_strsA xs)
theorem dp_strs {K : PySem.W.Frag} {H : Hp} {a : Addr} {xs : List Str} (h : SqL K H a (xs.map V.str)) : Dp K H (.ref a) (dStrs xs) := .lst h (dp_strsA xs)
theorem strs_nil (xs : List Str) : PyData.eqv (dStrs xs) (dStrs []) = decide (xs = []) := by
  show PyData.eqvAll _ _ = _
  cases xs with
  | nil => simp [PyData.eqvAll]
  | cons x xs => simp [PyData.eqvAll]
abbrev dSi (k : Str) (n : Int) : PyData := .tuple [.str k, .int n]
theorem si_shaped {k : Str} {n : Int} (h : PyData.strOk k = true) : SeqAt.shaped (dSi k n) = true := by
  have d : PyData.depth (dSi k n) ≤ 64 := by
    show PyData.depthAll [PyData.str k, PyData.int n] + 1 ≤ 64
    simp [PyData.depthAll, PyData.depth]
  show (PyData.canLayAll0 [PyData.str k, PyData.int n] && decide (PyData.depth (dSi k n) ≤ 64)) = true
  rw [decide_eq_true d, Bool.and_true]
  simp [PyData.canLayAll0, PyData.canLay0, h]
theorem si_eqv (k : Str) (n : Int) : PyData.eqv (dSi k n) (dSi k n) = true := by
  show PyData.eqvAll _ _ = true
  simp [PyData.eqvAll, PyData.eqv]
theorem dp_si {K : PySem.W.Frag} {H : Hp} {p : Addr} {k : Str} {n : Int} (h : H p = some (.tup [.str k, .int n])) : Dp K H (.ref p) (dSi k n) := .tup (SqT.of h) (.cons (.str _) (.cons (.int _) .nil))
theorem line_ok {z a b : Str} (hz : Over abc z) (ha : Over z a) (hb : Over z b) : PyData.strOk (a ++ ":" ++ b) = true := by
  show (a ++ ":" ++ b).cps.all (· < 0x110000) = true
  rw [← Array.all_toList, List.all_eq_true]
  intro c hc
  have le : ∀ y ∈ abc.cps.toList, y < 0x110000 := by decide +kernel
  have e : (a ++ ":" ++ b).cps.toList = (a.cps.toList ++ [58]) ++ b.cps.toList := by
    show ((a.cps ++ (":" : Str).cps) ++ b.cps).toList = _
    rw [Array.toList_append, Array.toList_append]
    rfl
  rw [e] at hc
  refine decide_eq_true ?_
  rcases List.mem_append.mp hc with q | q
  · rcases List.mem_append.mp q with q | q
    · exact le c (hz c (ha c q))
    · have : c = 58 := by simpa using q
      omega
  · exact le c (hz c (hb c q))
end Rz

namespace Rz
open PySem PySem.Spec PyProof.Rows L2
def spLaw (K : PySem.W.Frag) : Sp := fun vs H Q _ => ∃ (a : Addr) (ns : List Int), vs = [.ref a] ∧ SqL K H a (ns.map V.int) ∧ ns.length ≤ 63 ∧ ∀ H', Q (.bl true) H'
theorem over_trans {x y z : Str} (h : Over y x) (g : Over z y) : Over z x := fun c hc => g c (h c hc)
theorem join_len {ls : List Str} (h : ∀ x ∈ ls, x.length ≤ 60) : (Txt.join "\n" ls).length ≤ 61 * ls.length := by
  have b := TL.tl_join "\n" ls
  rw [← TL.join_eq] at b
  have c := joinL_len [10] (ls.map TL.tl)
  have b : TL.tl (Txt.join "\n" ls) = TL.joinL [10] (ls.map TL.tl) := b
  rw [← b] at c
  have e : (TL.tl (Txt.join "\n" ls)).length = (Txt.join "\n" ls).length := Array.length_toList
  have s : ∀ {ms : List Str}, (∀ x ∈ ms, x.length ≤ 60) → ((ms.map TL.tl).map List.length).sum ≤ 60 * ms.length := by
    intro ms
    induction ms with
    | nil => intro _; exact Nat.le_refl _
    | cons m ms ih =>
      intro hm
      have a := hm m List.mem_cons_self
      have a2 : (TL.tl m).length = m.length := Array.length_toList
      have r := ih fun x hx => hm x (List.mem_cons_of_mem _ hx)
      simp only [List.map_cons, List.sum_cons, List.length_cons]
      omega
  have s1 := s h
  rw [List.length_map] at c
  have e10 : ls.length * [10].length = ls.length := Nat.mul_one _
  omega
theorem sum_small {ls : List Str} (h : ∀ x ∈ ls, x.length ≤ 60) : (ls.map (·.length)).sum ≤ 60 * ls.length := by
  induction ls with
  | nil => exact Nat.le_refl _
  | cons m ms ih =>
    have a := h m List.mem_cons_self
    have r := ih fun x hx => h x (List.mem_cons_of_mem _ hx)
    simp only [List.map_cons, List.sum_cons, List.length_cons]
    omega
section
variable {w : World} {K : PySem.W.Frag} {mg : Str → Option Value} {base : Heap}
theorem sc_law : FnScope N_law P_law (defScope s_law) := ⟨rfl, rfl, rfl, by decide +kernel, rfl, by decide +kernel, by decide +kernel⟩
theorem ok_law (T : Txt K mg) : FnOk prg w K mg base (L2.CX prg w) 14 T.f_law T.fd_law P_law (spLaw K) := by
  refine Rz.Fun.okN T.F_law sc_law (fun vs H Q E h => ?_) (fun cdv A outer s H vs Q E hr h => ?_)
  · obtain ⟨a, ns, rfl, _⟩ := h
    rfl
  obtain ⟨a, ns, rfl, hS, hlen, k⟩ := h
  have nd := sc_law.nd
  have two : (2 : Nat) ≤ sizeLine := by decide
  have sz : ∀ {n : Nat}, n ≤ 1000 → n ≤ sizeLine := fun h => by rw [sizeLine_eq]; omega
  refine ⟨_, (pss_cons (ps_set (i := 1) nd rfl (Or.inl rfl) (pe_fn (ok_law_pool T) (hr.mono (by decide)) (by rfl) T.m__law_pool T.F__law_pool.kp T.b__law_pool .nil (fun _ => atN _) (pa_cons (pv 0) pa_nil)))
    (pss_cons (ps_set (i := 2) nd rfl (Or.inl rfl) (pe_fn (ok_law_alphabet T) (hr.mono (by decide)) (by rfl) T.m__law_alphabet T.F__law_alphabet.kp T.b__law_alphabet .nil (fun _ => atN _) (pa_cons (pv 1) (pa_cons pe_int pa_nil))))
    (pss_cons (ps_set (i := 3) nd rfl (Or.inl rfl) (pe_lst pa_nil))
    (pss_cons (ps_for PassesOwn.never rfl (pi_range1 rfl T.n_range (pa_cons (pe_fn (ok_law_pick T) (hr.mono (by decide)) (by rfl) T.m__law_pick T.F__law_pick.kp T.b__law_pick .nil (fun _ => atN _) (pa_cons (pv 1) (pa_cons pe_int pa_nil))) pa_nil)) (pg_name (i := 4) nd rfl (Or.inl rfl))
      (pss_cons (ps_set (i := 5) nd rfl (Or.inl rfl) (pe_fn (ok_law_word_of T) (hr.mono (by decide)) (by rfl) T.m__law_word_of T.F__law_word_of.kp T.b__law_word_of .nil (fun _ => atN _) (pa_cons (pv 1) (pa_cons (pv 2) (pa_cons pe_int (pa_cons pe_int pa_nil))))))
      (pss_one (ps_expr (pe_bm PySem.F.plainAttrs_list PySem.F.slot_list_append PySem.F.type_list_append mt_append (pv 3) (pa_cons (pe_op op_add_str (pe_op op_add_str (pv 5) pe_str) (pe_fn (ok_law_word_of T) (hr.mono (by decide)) (by rfl) T.m__law_word_of T.F__law_word_of.kp T.b__law_word_of .nil (fun _ => atN _) (pa_cons (pv 1) (pa_cons (pv 2) (pa_cons pe_int (pa_cons pe_int pa_nil)))))) pa_nil))))))
    (C8.pss_cut (ps_if (PW.pt (pw_and (pt_cmpR op_eq (pe_fn (ok_law_pick T) (hr.mono (by decide)) (by rfl) T.m__law_pick T.F__law_pick.kp T.b__law_pick .nil (fun _ => atN _) (pa_cons (pv 1) (pa_cons pe_int pa_nil))) pe_int (nomark _)) (pw_and1 (pt_cmpR (op_neD hr.units) (pv 3) (pe_lst pa_nil) (nomark _))))) (pss_cons (ps_set (i := 6) nd rfl (Or.inl rfl) (pe_fn (ok_law_pick T) (hr.mono (by decide)) (by rfl) T.m__law_pick T.F__law_pick.kp T.b__law_pick .nil (fun _ => atN _) (pa_cons (pv 1) (pa_cons (pe_callB call_lenS (by rfl) T.n_len PySem.boot_len (pa_cons (pv 3) pa_nil)) pa_nil))))
      (pss_one (ps_asg (pe_fn (ok_law_change T) (hr.mono (by decide)) (by rfl) T.m__law_change T.F__law_change.kp T.b__law_change .nil (fun _ => atN _) (pa_cons (pv 1) (pa_cons (pe_ix ix_list (pv 3) (pv 6) (fun _ _ => rfl)) (pa_cons (pv 2) pa_nil)))) (pg_sub (pv 3) (pv 6) set_list)))) pss_nil)
    (pss_cons (ps_set (i := 7) nd rfl (Or.inl rfl) (pe_join pe_str (pv 3)))
    (pss_cons (ps_set (i := 8) nd rfl (Or.inl rfl) (pe_fn (ok_law_due_of T) (hr.mono (by decide)) (by rfl) T.m__law_due_of T.F__law_due_of.kp T.b__law_due_of .nil (fun _ => atN _) (pa_cons (pv 7) pa_nil)))
    (pss_cons (ps_set (i := 9) nd rfl (Or.inl rfl) (pe_fn (ok_law_try_make T) (hr.mono (by decide)) (by rfl) T.m__law_try_make T.F__law_try_make.kp T.b__law_try_make .nil (fun _ => atN _) (pa_cons (pv 7) pa_nil)))
    (pss_cons (ps_if (pt_not (pt_val (pe_fn (ok_law_same T) (hr.mono (by decide)) (by rfl) T.m__law_same T.F__law_same.kp T.b__law_same .nil (fun _ => atN _) (pa_cons (pv 9) (pa_cons (pv 8) (pa_cons (pv 7) pa_nil)))))) (pss_one (ps_ret pe_bl)) pss_nil)
    (C8.pss_cut (ps_if (pt_cmpR op_eq (pe_ix ix_tup (pv 8) pe_int (fun _ _ => rfl)) pe_str (nomark _)) (pss_cons (ps_set (i := 10) nd rfl (Or.inl rfl) (pe_mt0 (pe_ix ix_tup (pv 9) pe_int (fun _ _ => rfl)) T.cl_Book T.M_Book_data (ok_Book_data T) (hr.mono (by decide)) T.b_Book_data .nil (fun _ => atN _)))
      (pss_cons (ps_if (PW.pt (pw_or (pt_val (pe_callB call_isi (by rfl) T.n_isinstance (by decide +kernel) (pa_cons (pv 10) (pa_cons (pe_bltn (v := .ty "str") (by rfl) T.n_str (by decide +kernel) rfl) pa_nil)))) (pw_or1 (pt_cmpR (op_neD hr.units) (pe_listOfB rfl (by rfl) T.n_list (pv 10)) (pe_lc (own := [("_law_sign", 11)]) (g := (gName 11)) (tt := tYes) rfl nd (pi_str (pv 7)) (blkOk_by (N := N_law) (sc := defScope s_law) (by decide +kernel)) (fun _ _ _ _ _ => (pg_name (i := 11) nd rfl (Or.inl rfl))) (fun _ _ _ _ _ => pts_nil) (fun _ _ _ _ _ => (pe_callB call_ord (by rfl) T.n_ord (by decide +kernel) (pa_cons (pv 11) pa_nil)))) (nomark _))))) (pss_one (ps_ret pe_bl)) pss_nil)
      (pss_cons (ps_if (pt_not (pt_val (pe_fn (ok_law_same T) (hr.mono (by decide)) (by rfl) T.m__law_same T.F__law_same.kp T.b__law_same .nil (fun _ => atN _) (pa_cons (pe_fn (ok_law_try_make T) (hr.mono (by decide)) (by rfl) T.m__law_try_make T.F__law_try_make.kp T.b__law_try_make .nil (fun _ => atN _) (pa_cons (pv 10) pa_nil)) (pa_cons (pv 8) (pa_cons (pv 7) pa_nil)))))) (pss_one (ps_ret pe_bl)) pss_nil)
      (pss_one (ps_if (pt_cmpR (op_neD hr.units) (pe_fn (ok_law_first_bad T) (hr.mono (by decide)) (by rfl) T.m__law_first_bad T.F__law_first_bad.kp T.b__law_first_bad .nil (fun _ => atN _) (pa_cons (pv 10) pa_nil)) (pe_ifExp (pt_cmpR op_eq (pv 7) pe_str (nomark _)) (pe_tup (pa_cons pe_str (pa_cons pe_int pa_nil))) (pe_tup (pa_cons pe_str (pa_cons (pe_m1 PySem.F.slot_str_find PySem.F.type_str_find mt_find (pv 7) pe_str (by rfl)) pa_nil)))) (nomark _)) (pss_one (ps_ret pe_bl)) pss_nil))))) pss_nil)
    (pss_one (ps_ret (pe_and (pe_fn (ok_law_same T) (hr.mono (by decide)) (by rfl) T.m__law_same T.F__law_same.kp T.b__law_same .nil (fun _ => atN _) (pa_cons (pe_fn (ok_law_try_make T) (hr.mono (by decide)) (by rfl) T.m__law_try_make T.F__law_try_make.kp T.b__law_try_make .nil (fun _ => atN _) (pa_cons pe_str pa_nil)) (pa_cons (pe_tup (pa_cons pe_str (pa_cons (pe_lst pa_nil) pa_nil))) (pa_cons pe_str pa_nil)))) (pe_one (pe_fn (ok_law_same T) (hr.mono (by decide)) (by rfl) T.m__law_same T.F__law_same.kp T.b__law_same .nil (fun _ => atN _) (pa_cons (pe_fn (ok_law_try_make T) (hr.mono (by decide)) (by rfl) T.m__law_try_make T.F__law_try_make.kp T.b__law_try_make .nil (fun _ => atN _) (pa_cons (pv 7) pa_nil)) (pa_cons (pv 8) (pa_cons (pv 7) pa_nil)))))))))))))))))), ?_⟩
  refine ⟨_, rfl, a, ns, rfl, hS, hlen, fun H1 d S1 hd D1 => ?_⟩
  refine ⟨_, rfl, d, 3, rfl, by decide, by decide, D1, fun H2 z hz oz D2 B2 => ?_⟩
  refine ⟨by show 0 ≤ sizeLine; decide, fun l hl => ?_⟩
  have ndl : d ≠ l := apartNew D2.some hl
  have D3 := D2.upd (o := .lst []) ndl
  have e3 : upd H2 l (.lst []) l = some (.lst (([] : List Str).map V.str)) := upd_same
  generalize upd H2 l (.lst []) = H3 at D3 e3
  refine ⟨_, rfl, d, 9, rfl, by decide, D3, fun H4 n n0 n9 D4 B4 => ?_⟩
  have e4 := B4.at e3 (nin1 (Ne.symm ndl))
  refine ⟨n, rfl, by omega, by omega, for_range (n := n.toNat) (fun i σ H' => ∃ (v4 v5 : Option V) (ls : List Str), σ = [some (.ref a), some (.ref d), some (.str z), some (.ref l), v4, v5, none, none, none, none, none, none] ∧ Dr H' d ∧ H' l = some (.lst (ls.map V.str)) ∧ ls.length = i ∧ ∀ x ∈ ls, x.length ≤ 20 ∧ PyData.strOk x = true)
    ⟨none, none, [], rfl, D4, e4, rfl, fun x hx => by cases hx⟩ ?_ ?_⟩
  · rintro i σ H5 hi ⟨v4, v5, ls, rfl, D5, e5, nls, hls⟩
    have c1 : (":" : Str).length = 1 := rfl
    refine ⟨_, rfl, _, rfl, d, z, 1, 4, rfl, by decide, by decide, by decide, by omega, by omega, D5, fun H6 x x1 x4 ox D6 B6 => ?_⟩
    have e6 := B6.at e5 (nin1 (Ne.symm ndl))
    refine ⟨_, rfl, .inl ⟨rfl, _, SqL.of e6⟩, _, rfl, _, _, rfl, rfl, sz (by rw [c1]; omega), _, rfl, _, rfl, d, z, 0, 4, rfl, by decide, by decide, by decide, by omega, by omega, D6, fun H7 y y1 y4 oy D7 B7 => ?_⟩
    have e7 := B7.at e6 (nin1 (Ne.symm ndl))
    refine ⟨_, _, rfl, rfl, sz (by rw [Str.length_append, c1]; omega), l, _, _, rfl, rfl, e7, by rw [List.length_map, sizeLine_eq]; omega, ?_⟩
    refine ⟨_, _, ls ++ [x ++ ":" ++ y], rfl, D7.upd ndl, by rw [upd_same, List.map_append]; rfl, by rw [List.length_append, nls]; rfl, fun q hq => ?_⟩
    rcases List.mem_append.mp hq with q1 | q1
    · exact hls q q1
    · have eq : q = x ++ ":" ++ y := by simpa using q1
      rw [eq]
      exact ⟨by rw [Str.length_append, Str.length_append, c1]; omega, line_ok oz ox oy⟩
  · rintro σ H5 ⟨v4, v5, ls, rfl, D5, e5, nls, hls⟩
    have n8 : ls.length ≤ 8 := by omega
    refine ⟨fun σ H' => ∃ (v6 : Option V) (ks : List Str), σ = [some (.ref a), some (.ref d), some (.str z), some (.ref l), v4, v5, v6, none, none, none, none, none] ∧ H' l = some (.lst (ks.map V.str)) ∧ ks.length ≤ 8 ∧ ∀ x ∈ ks, x.length ≤ 60, ?_, ?_⟩
    · have same : ∀ (H' : Hp), H' l = some (.lst (ls.map V.str)) → ∃ (v6 : Option V) (ks : List Str), [some (V.ref a), some (.ref d), some (.str z), some (.ref l), v4, v5, none, none, none, none, none, none] = [some (V.ref a), some (.ref d), some (.str z), some (.ref l), v4, v5, v6, none, none, none, none, none] ∧ H' l = some (.lst (ks.map V.str)) ∧ ks.length ≤ 8 ∧ ∀ x ∈ ks, x.length ≤ 60 := fun H' e => ⟨none, ls, rfl, e, n8, fun x hx => by have := (hls x hx).1; omega⟩
      refine ⟨_, rfl, d, 2, rfl, by decide, D5, fun H6 m m0 m1 D6 B6 => ⟨rfl, _, rfl, ite2 (fun h => ?_) (fun h => ?_)⟩⟩
      · have e6 := B6.at e5 (nin1 (Ne.symm ndl))
        refine ⟨_, rfl, by show 0 ≤ sizeLine; decide, fun q hq => ?_⟩
        have S7 := Rz.Same.new (o := .lst []) (Same.refl H6) hq
        have D7 := D6.same S7
        have e7 := S7 _ _ e6
        have eq7 : upd H6 q (.lst []) q = some (.lst (([] : List Str).map V.str)) := upd_same
        generalize upd H6 q (.lst []) = H7 at S7 D7 e7 eq7
        refine ⟨dStrs ls, dStrs [], dp_strs (SqL.of e7), dp_strs (SqL.of eq7), strs_shaped fun x hx => (hls x hx).2, strs_shaped (fun x hx => by cases hx), _, rfl, ?_⟩
        rw [strs_nil]
        by_cases h0 : ls = []
        · rw [decide_eq_true h0]
          exact iteF (same H7 e7)
        · rw [decide_eq_false h0]
          have pos : 0 < ls.length := by
            cases ls with
            | nil => exact absurd rfl h0
            | cons _ _ => exact Nat.succ_pos _
          refine iteT ?_
          refine ⟨_, rfl, _, rfl, lenS_go (SqL.of e7) ⟨d, _, rfl, by rw [List.length_map]; omega, D7, fun H8 i i0 i1 D8 B8 => ?_⟩⟩
          have e8 := B8.at e7 (nin1 (Ne.symm ndl))
          obtain ⟨v, hv, hat⟩ := atI_in (xs := ls.map V.str) i0 i1
          obtain ⟨g, hg, rfl⟩ := List.mem_map.mp hv
          refine ⟨_, rfl, _, rfl, _, rfl, l, _, i, _, rfl, rfl, SqL.of e8, hat, _, rfl, d, g, z, rfl, (hls g hg).1, by omega, by omega, D8, fun H9 x x60 D9 B9 => ?_⟩
          have e9 := B9.at e8 (nin1 (Ne.symm ndl))
          have hix : ixN (ls.map V.str).length i = some i.toNat := by
            rw [List.length_map] at i1 ⊢
            unfold ixN
            rw [if_pos i0, if_pos i1]
          refine ⟨_, rfl, _, rfl, l, _, i, _, rfl, rfl, e9, hix, ?_⟩
          refine ⟨_, ls.set i.toNat x, rfl, ?_, ?_, ?_⟩
          · rw [upd_same]
            congr 2
            exact (List.map_set ..).symm
          · rw [List.length_set]
            exact n8
          · intro y hy
            rcases List.mem_or_eq_of_mem_set hy with q1 | q1
            · have := (hls y q1).1
              omega
            · rw [q1]
              exact x60
      · exact iteF (same H6 (B6.at e5 (nin1 (Ne.symm ndl))))
    rintro σ H6 ⟨v6, ks, rfl, e6, k8, k60⟩
    have jl : (Txt.join "\n" ks).length ≤ 61 * ks.length := join_len k60
    have sm := sum_small k60
    refine ⟨⟨_, rfl⟩, _, rfl, _, l, ks, rfl, rfl, .inl (SqL.of e6), ?_, ?_⟩
    · show (ks.map (·.length)).sum + ks.length * 1 ≤ 16777216
      omega
    generalize Txt.join "\n" ks = t at jl
    have ht : t.length ≤ 900 := by omega
    have facts : ∀ rs, bdOf t = .book rs → GoodB rs ∧ rs.length ≤ 6 ∧ wrT rs = t := fun rs h => book_facts h
    refine ⟨_, rfl, t, rfl, ht, fun H7 u S7 U7 => ?_⟩
    refine ⟨_, rfl, .str t, t, rfl, .inl rfl, ht, fun H8 p S8 P8 => ?_⟩
    have U8 := U7.same S8
    refine ⟨_, rfl, _, rfl, _, rfl, p, u, t, bdOf t, rfl, P8, U8, facts, fun H9 S9 => ⟨_, rfl, iteF ?_⟩⟩
    have U9 := U8.same S9
    have P9 := P8.same S9
    refine ⟨fun σ H' => ∃ v10 : Option V, σ = [some (.ref a), some (.ref d), some (.str z), some (.ref l), v4, v5, v6, some (.str t), some (.ref u), some (.ref p), v10, none] ∧ DueAt H' u (bdOf t), ?_, ?_⟩
    · generalize ho : bdOf t = o at P9 U9
      cases o with
      | line n =>
        have hu : H9 u = some (.tup [.str "line", .int (n : Nat)]) := U9
        exact ⟨_, rfl, u, _, _, .str "line", rfl, rfl, SqT.of hu, rfl, rfl, _, rfl, iteF ⟨none, rfl, hu⟩⟩
      | full =>
        have hu : H9 u = some (.tup [.str "full", .int 0]) := U9
        exact ⟨_, rfl, u, _, _, .str "full", rfl, rfl, SqT.of hu, rfl, rfl, _, rfl, iteF ⟨none, rfl, hu⟩⟩
      | book rs =>
        obtain ⟨hg, h6, ew⟩ := facts rs ho
        obtain ⟨b, bt, hp, hB⟩ : ∃ b u, H9 p = some (.tup [.str "book", .ref b]) ∧ BkAt T.c_Book T.c_Rule H9 b u rs := P9
        obtain ⟨lu, hu, hS9⟩ : ∃ l, H9 u = some (.tup [.str "book", .ref l]) ∧ SAt H9 l rs := U9
        obtain ⟨dx, ts, hb, hbt, hP⟩ := id hB
        have hasc := wrT_asc hg
        refine ⟨_, rfl, u, _, _, .str "book", rfl, rfl, SqT.of hu, rfl, rfl, _, rfl, iteT ?_⟩
        refine ⟨_, rfl, p, _, _, .ref b, rfl, rfl, SqT.of hp, rfl, b, dx, _, rfl, hb, rfl, b, bt, rs, rfl, hB, hg, h6, by rw [ew]; omega, fun H10 S10 => ?_⟩
        have sgn := book_sign hg
        rw [ew] at hasc sgn ⊢
        have U10 : DueAt H10 u (bdOf t) := by
          rw [ho]
          exact ⟨lu, S10 _ _ hu, hS9.same S10⟩
        refine ⟨_, rfl, _, _, .type "bytes", .type "str", false, rfl, .ty _, .byt _, kit_ty (by decide +kernel), false, rfl, ?_⟩
        refine iteF ?_
        have esz : (PySem.W.KSb.enc t).size = t.length := PySem.W.KSb.enc_size t
        refine ⟨_, rfl, _, rfl, by rw [esz, sizeLine_eq]; omega, fun q hq => ?_⟩
        have ebi : bi (PySem.W.KSb.enc t) = PySem.W.KSb.codes t := PySem.W.KSb.enc_ints hasc
        have S11 := Rz.Same.new (o := .lst ((bi (PySem.W.KSb.enc t)).map V.int)) (Same.refl H10) hq
        have e11 : upd H10 q (.lst ((bi (PySem.W.KSb.enc t)).map V.int)) q = some (.lst ((PySem.W.KSb.codes t).map V.int)) := by rw [upd_same, ebi]
        have U11 := U10.same S11
        generalize upd H10 q (.lst ((bi (PySem.W.KSb.enc t)).map V.int)) = H11 at S11 e11 U11
        refine ⟨_, rfl, t, rfl, fun D hD => lc_it walk_str (fun i H' => Same H11 H' ∧ H' D = some (.lst ((t.cps.toList.take i).map fun c => V.int ((c : Nat) : Int)))) ⟨Rz.Same.new (Same.refl _) hD, upd_same⟩ (fun _ _ _ _ => True.intro) ?_ ?_⟩
        · rintro j x H12 H13 hj ⟨S, e⟩ ⟨rfl, c, hc, rfl⟩
          have hc' : t.cps.toList[j]? = some c := by
            rw [← hc]
            exact Array.getElem?_toList ..
          refine ⟨rfl, yesT ⟨_, rfl, _, rfl, rfl, _, e, ?_, Rz.Same.upd S hD, ?_⟩⟩
          · rw [List.length_map, List.length_take, sizeLine_eq, len_list]
            omega
          · rw [upd_same, List.take_add_one, hc', List.map_append]
            rfl
        rintro H12 ⟨S12, e12⟩
        have eall : t.cps.toList.take t.cps.size = t.cps.toList := List.take_of_length_le (Nat.le_refl _)
        rw [eall] at e12
        have e12' : H12 D = some (.lst ((PySem.W.KSb.codes t).map V.int)) := by
          rw [e12]
          unfold PySem.W.KSb.codes
          rw [List.map_map]
          rfl
        refine ⟨dInts (PySem.W.KSb.codes t), dInts (PySem.W.KSb.codes t), dp_ints (SqL.of (S12 _ _ e11)), dp_ints (SqL.of e12'), ints_shaped _, ints_shaped _, _, rfl, ?_⟩
        rw [ints_eqv, decide_eq_true rfl]
        refine iteF ?_
        have U12 := U11.same S12
        refine ⟨_, rfl, .byt (PySem.W.KSb.enc t), t, rfl, .inr ⟨rfl, hasc⟩, ht, fun H13 p2 S13 P13 => ?_⟩
        refine ⟨_, rfl, _, rfl, p2, u, t, bdOf t, rfl, P13, U12.same S13, facts, fun H14 S14 => ⟨_, rfl, iteF ?_⟩⟩
        have U14 := (U12.same S13).same S14
        rw [ho] at U14
        refine ⟨_, rfl, t, rfl, hasc, ht, ?_⟩
        by_cases e0 : t.length = 0
        · have et := str_nil e0
          have ef : fo t = none := by rw [et]; rfl
          rw [ef]
          intro H15 p3 S15 e15
          have e15' : H15 p3 = some (.tup [.str "row", .int 0]) := by rw [e15, e0]; rfl
          refine ⟨_, rfl, rfl, _, rfl, ?_⟩
          rw [decide_eq_true (congrArg V.str et)]
          refine iteT ⟨two, fun q3 hq3 => ?_⟩
          have S16 := Rz.Same.new (o := .tup [.str "row", .int 0]) (Same.refl H15) hq3
          have ok : PyData.strOk ("row" : Str) = true := by decide +kernel
          refine ⟨dSi "row" 0, dSi "row" 0, dp_si (S16 _ _ e15'), dp_si upd_same, si_shaped ok, si_shaped ok, _, rfl, ?_⟩
          rw [si_eqv]
          exact iteF ⟨_, rfl, (U14.same S15).same S16⟩
        · have ner : rs ≠ [] := fun z => e0 (by
            rw [z] at ew
            rw [← ew]
            rfl)
          obtain ⟨i, hf, hfind⟩ := sgn ner
          rw [hf]
          intro H15 p3 S15 e15
          refine ⟨_, rfl, rfl, _, rfl, ?_⟩
          rw [decide_eq_false (fun z => e0 (by
            cases z
            rfl))]
          refine iteF ⟨_, rfl, ⟨_, rfl⟩, _, _, rfl, rfl, two, fun q3 hq3 => ?_⟩
          have e16 : upd H15 q3 (.tup [.str "sign", .int (Txt.find t ":")]) q3 = some (.tup [.str "sign", .int (i : Nat)]) := by rw [upd_same, hfind]
          have S16 := Rz.Same.new (o := .tup [.str "sign", .int (Txt.find t ":")]) (Same.refl H15) hq3
          have ok : PyData.strOk ("sign" : Str) = true := by decide +kernel
          refine ⟨dSi "sign" i, dSi "sign" i, dp_si (S16 _ _ e15), dp_si e16, si_shaped ok, si_shaped ok, _, rfl, ?_⟩
          rw [si_eqv]
          exact iteF ⟨_, rfl, (U14.same S15).same S16⟩
    rintro σ H10 ⟨v10, rfl, U10⟩
    refine ⟨.str "", "", rfl, .inl rfl, by decide, fun H11 p2 S11 P11 => ?_⟩
    rw [bd_empty] at P11
    refine ⟨by show 0 ≤ sizeLine; decide, fun l0 hl0 => ⟨two, fun u0 hu0 => ?_⟩⟩
    have S12 := Rz.Same.new (o := .lst []) S11 hl0
    have P12 := P11.same (Rz.Same.new (o := .lst []) (Same.refl H11) hl0)
    have e12 : upd H11 l0 (.lst []) l0 = some (.lst []) := upd_same
    generalize upd H11 l0 (.lst []) = H12 at S12 P12 e12 hu0
    have S13 := Rz.Same.new (o := .tup [.str "book", .ref l0]) S12 hu0
    have P13 := P12.same (Rz.Same.new (o := .tup [.str "book", .ref l0]) (Same.refl H12) hu0)
    have U13 : DueAt (upd H12 u0 (.tup [.str "book", .ref l0])) u0 (.book []) := ⟨l0, upd_same, [], by rw [upd_ne (ne_of_none e12 hu0)]; exact e12, .nil⟩
    refine ⟨p2, u0, "", .book [], rfl, P13, U13, fun rs h => by cases h; exact ⟨(fun r hr => by cases hr), by decide, rfl⟩, fun H14 S14 => ⟨_, rfl, iteT ?_⟩⟩
    refine ⟨_, rfl, .str t, t, rfl, .inl rfl, ht, fun H15 p3 S15 P15 => ?_⟩
    have U15 := U10.same ((S13.trans S14).trans S15)
    exact ⟨_, rfl, _, rfl, p3, u, t, bdOf t, rfl, P15, U15, facts, fun H16 S16 => k H16⟩
end
end Rz

namespace Rz
open PySem L2
theorem all_mk {w : World} {K : PySem.W.Frag} {h : Heap} {mg : Str → Option Value} {fa : Addr} (X : K.In h) (G : h.Ns mainGlobals mg) (hfa : mg "law" = some (.ref fa))
    {tk_SIGNS : Tok}
    {tk_GREATEST_HEIGHT : Tok}
    {tk_MOST_SIGNS : Tok}
    {tk_MOST_RULES : Tok}
    {c_BadSign : Addr}
    {nm_BadSign q_BadSign : Str} {N_BadSign : Addr} {bs_BadSign bm_BadSign : List Value} {sn_BadSign : List Str} {sub_BadSign : List Value} {ab_BadSign : Bool} {col_BadSign : Option Bool} {dd_BadSign : Option Addr} {k0_BadSign k1_BadSign k2_BadSign k3_BadSign k5_BadSign : Option Value}
    {f_BadSign_init cc_BadSign_init cda_BadSign_init : Addr} {oc_BadSign_init kV_BadSign_init dc_BadSign_init pm_BadSign_init ct_BadSign_init ccl_BadSign_init cl_BadSign_init : Value} {od_BadSign_init an_BadSign_init cdd_BadSign_init cld_BadSign_init : Option Addr} {sl_BadSign_init cs_BadSign_init ls_BadSign_init : Array (Option Value)} {vs_BadSign_init : Array Value} {fl_BadSign_init : Str} {tf_BadSign_init : Tok}
    {c_BadHeight : Addr}
    {nm_BadHeight q_BadHeight : Str} {N_BadHeight : Addr} {bs_BadHeight bm_BadHeight : List Value} {sn_BadHeight : List Str} {sub_BadHeight : List Value} {ab_BadHeight : Bool} {col_BadHeight : Option Bool} {dd_BadHeight : Option Addr} {k0_BadHeight k1_BadHeight k2_BadHeight k3_BadHeight k5_BadHeight : Option Value}
    {f_BadHeight_init cc_BadHeight_init cda_BadHeight_init : Addr} {oc_BadHeight_init kV_BadHeight_init dc_BadHeight_init pm_BadHeight_init ct_BadHeight_init ccl_BadHeight_init cl_BadHeight_init : Value} {od_BadHeight_init an_BadHeight_init cdd_BadHeight_init cld_BadHeight_init : Option Addr} {sl_BadHeight_init cs_BadHeight_init ls_BadHeight_init : Array (Option Value)} {vs_BadHeight_init : Array Value} {fl_BadHeight_init : Str} {tf_BadHeight_init : Tok}
    {c_BadLine : Addr}
    {nm_BadLine q_BadLine : Str} {N_BadLine : Addr} {bs_BadLine bm_BadLine : List Value} {sn_BadLine : List Str} {sub_BadLine : List Value} {ab_BadLine : Bool} {col_BadLine : Option Bool} {dd_BadLine : Option Addr} {k0_BadLine k1_BadLine k2_BadLine k3_BadLine k5_BadLine : Option Value}
    {f_BadLine_init cc_BadLine_init cda_BadLine_init : Addr} {oc_BadLine_init kV_BadLine_init dc_BadLine_init pm_BadLine_init ct_BadLine_init ccl_BadLine_init cl_BadLine_init : Value} {od_BadLine_init an_BadLine_init cdd_BadLine_init cld_BadLine_init : Option Addr} {sl_BadLine_init cs_BadLine_init ls_BadLine_init : Array (Option Value)} {vs_BadLine_init : Array Value} {fl_BadLine_init : Str} {tf_BadLine_init : Tok}
    {c_Uneven : Addr}
    {c_BadRule : Addr}
    {c_BookFull : Addr}
    {c_Row : Addr}
    {c_Rule : Addr}
    {c_Book : Addr}
    {f_check_text : Addr} {oc_check_text kV_check_text dc_check_text pm_check_text cd_check_text ct_check_text : Value} {od_check_text an_check_text : Option Addr} {sl_check_text : Array (Option Value)}
    {f_decoded : Addr} {oc_decoded kV_decoded dc_decoded pm_decoded cd_decoded ct_decoded : Value} {od_decoded an_decoded : Option Addr} {sl_decoded : Array (Option Value)}
    {f_check_height : Addr} {oc_check_height kV_check_height dc_check_height pm_check_height cd_check_height ct_check_height : Value} {od_check_height an_check_height : Option Addr} {sl_check_height : Array (Option Value)}
    {f_Row_init : Addr} {oc_Row_init kV_Row_init dc_Row_init pm_Row_init cd_Row_init ct_Row_init : Value} {od_Row_init an_Row_init : Option Addr} {sl_Row_init : Array (Option Value)}
    {dT_Row_init : Addr}
    {tk0_Row_init : Tok}
    {uc_Row_init : Value} {ud_Row_init : Option Addr} {un_Row_init : Nat} {us_Row_init : Array (Option Value)}
    {f_Row_len : Addr} {oc_Row_len kV_Row_len dc_Row_len pm_Row_len cd_Row_len ct_Row_len : Value} {od_Row_len an_Row_len : Option Addr} {sl_Row_len : Array (Option Value)}
    {f_Rule_init : Addr} {oc_Rule_init kV_Rule_init dc_Rule_init pm_Rule_init cd_Rule_init ct_Rule_init : Value} {od_Rule_init an_Rule_init : Option Addr} {sl_Rule_init : Array (Option Value)}
    {dT_Rule_init : Addr}
    {tk0_Rule_init : Tok}
    {uc_Rule_init : Value} {ud_Rule_init : Option Addr} {un_Rule_init : Nat} {us_Rule_init : Array (Option Value)}
    {f_Rule_str : Addr} {oc_Rule_str kV_Rule_str dc_Rule_str pm_Rule_str cd_Rule_str ct_Rule_str : Value} {od_Rule_str an_Rule_str : Option Addr} {sl_Rule_str : Array (Option Value)}
    {f_Book_init : Addr} {oc_Book_init kV_Book_init dc_Book_init pm_Book_init cd_Book_init ct_Book_init : Value} {od_Book_init an_Book_init : Option Addr} {sl_Book_init : Array (Option Value)}
    {f_Book_iter : Addr} {oc_Book_iter kV_Book_iter dc_Book_iter pm_Book_iter cd_Book_iter ct_Book_iter : Value} {od_Book_iter an_Book_iter : Option Addr} {sl_Book_iter : Array (Option Value)}
    {f_Book_written : Addr} {oc_Book_written kV_Book_written dc_Book_written pm_Book_written cd_Book_written ct_Book_written : Value} {od_Book_written an_Book_written : Option Addr} {sl_Book_written : Array (Option Value)}
    {f_Book_data : Addr} {oc_Book_data kV_Book_data dc_Book_data pm_Book_data cd_Book_data ct_Book_data : Value} {od_Book_data an_Book_data : Option Addr} {sl_Book_data : Array (Option Value)}
    {f__read_rule : Addr} {oc__read_rule kV__read_rule dc__read_rule pm__read_rule cd__read_rule ct__read_rule : Value} {od__read_rule an__read_rule : Option Addr} {sl__read_rule : Array (Option Value)}
    {f_Book_read : Addr} {oc_Book_read kV_Book_read dc_Book_read pm_Book_read cd_Book_read ct_Book_read : Value} {od_Book_read an_Book_read : Option Addr} {sl_Book_read : Array (Option Value)}
    {p_Book_read : Addr} {rs_Book_read : List Value}
    {f__law_pool : Addr} {oc__law_pool kV__law_pool dc__law_pool pm__law_pool cd__law_pool ct__law_pool : Value} {od__law_pool an__law_pool : Option Addr} {sl__law_pool : Array (Option Value)}
    {f__law_pick : Addr} {oc__law_pick kV__law_pick dc__law_pick pm__law_pick cd__law_pick ct__law_pick : Value} {od__law_pick an__law_pick : Option Addr} {sl__law_pick : Array (Option Value)}
    {f__law_alphabet : Addr} {oc__law_alphabet kV__law_alphabet dc__law_alphabet pm__law_alphabet cd__law_alphabet ct__law_alphabet : Value} {od__law_alphabet an__law_alphabet : Option Addr} {sl__law_alphabet : Array (Option Value)}
    {f__law_word_of : Addr} {oc__law_word_of kV__law_word_of dc__law_word_of pm__law_word_of cd__law_word_of ct__law_word_of : Value} {od__law_word_of an__law_word_of : Option Addr} {sl__law_word_of : Array (Option Value)}
    {f__law_is_int : Addr} {oc__law_is_int kV__law_is_int dc__law_is_int pm__law_is_int cd__law_is_int ct__law_is_int : Value} {od__law_is_int an__law_is_int : Option Addr} {sl__law_is_int : Array (Option Value)}
    {f__law_odd_sign : Addr} {oc__law_odd_sign kV__law_odd_sign dc__law_odd_sign pm__law_odd_sign cd__law_odd_sign ct__law_odd_sign : Value} {od__law_odd_sign an__law_odd_sign : Option Addr} {sl__law_odd_sign : Array (Option Value)}
    {f__law_first_odd : Addr} {oc__law_first_odd kV__law_first_odd dc__law_first_odd pm__law_first_odd cd__law_first_odd ct__law_first_odd : Value} {od__law_first_odd an__law_first_odd : Option Addr} {sl__law_first_odd : Array (Option Value)}
    {f__law_is_text : Addr} {oc__law_is_text kV__law_is_text dc__law_is_text pm__law_is_text cd__law_is_text ct__law_is_text : Value} {od__law_is_text an__law_is_text : Option Addr} {sl__law_is_text : Array (Option Value)}
    {f__law_due_of : Addr} {oc__law_due_of kV__law_due_of dc__law_due_of pm__law_due_of cd__law_due_of ct__law_due_of : Value} {od__law_due_of an__law_due_of : Option Addr} {sl__law_due_of : Array (Option Value)}
    {f__law_try_make : Addr} {oc__law_try_make kV__law_try_make dc__law_try_make pm__law_try_make cd__law_try_make ct__law_try_make : Value} {od__law_try_make an__law_try_make : Option Addr} {sl__law_try_make : Array (Option Value)}
    {f__law_same : Addr} {oc__law_same kV__law_same dc__law_same pm__law_same cd__law_same ct__law_same : Value} {od__law_same an__law_same : Option Addr} {sl__law_same : Array (Option Value)}
    {f__law_first_bad : Addr} {oc__law_first_bad kV__law_first_bad dc__law_first_bad pm__law_first_bad cd__law_first_bad ct__law_first_bad : Value} {od__law_first_bad an__law_first_bad : Option Addr} {sl__law_first_bad : Array (Option Value)}
    {f__law_change : Addr} {oc__law_change kV__law_change dc__law_change pm__law_change cd__law_change ct__law_change : Value} {od__law_change an__law_change : Option Addr} {sl__law_change : Array (Option Value)}
    {f_law : Addr} {oc_law kV_law dc_law pm_law cd_law ct_law : Value} {od_law an_law : Option Addr} {sl_law : Array (Option Value)}
    (z_abs : PySem.W.nsIn K mainGlobals "abs" = some none)
    (z_bool : PySem.W.nsIn K mainGlobals "bool" = some none)
    (z_bytes : PySem.W.nsIn K mainGlobals "bytes" = some none)
    (z_classmethod : PySem.W.nsIn K mainGlobals "classmethod" = some none)
    (z_enumerate : PySem.W.nsIn K mainGlobals "enumerate" = some none)
    (z_int : PySem.W.nsIn K mainGlobals "int" = some none)
    (z_isinstance : PySem.W.nsIn K mainGlobals "isinstance" = some none)
    (z_iter : PySem.W.nsIn K mainGlobals "iter" = some none)
    (z_len : PySem.W.nsIn K mainGlobals "len" = some none)
    (z_list : PySem.W.nsIn K mainGlobals "list" = some none)
    (z_ord : PySem.W.nsIn K mainGlobals "ord" = some none)
    (z_range : PySem.W.nsIn K mainGlobals "range" = some none)
    (z_str : PySem.W.nsIn K mainGlobals "str" = some none)
    (z_tuple : PySem.W.nsIn K mainGlobals "tuple" = some none)
    (z_zip : PySem.W.nsIn K mainGlobals "zip" = some none)
    (a_SIGNS : PySem.W.nsIn K mainGlobals "SIGNS" = some (some (.str "abcdefghijklmnopqrstuvwxyz" tk_SIGNS)))
    (a_GREATEST_HEIGHT : PySem.W.nsIn K mainGlobals "GREATEST_HEIGHT" = some (some (.int 9 tk_GREATEST_HEIGHT)))
    (a_MOST_SIGNS : PySem.W.nsIn K mainGlobals "MOST_SIGNS" = some (some (.int 4 tk_MOST_SIGNS)))
    (a_MOST_RULES : PySem.W.nsIn K mainGlobals "MOST_RULES" = some (some (.int 6 tk_MOST_RULES)))
    (a_BadSign : PySem.W.nsIn K mainGlobals "BadSign" = some (some (.ref c_BadSign)))
    (l_BadSign : K.lookup c_BadSign = some (excClassObj nm_BadSign q_BadSign c_BadSign N_BadSign bs_BadSign bm_BadSign true sn_BadSign sub_BadSign ab_BadSign col_BadSign dd_BadSign k0_BadSign k1_BadSign k2_BadSign k3_BadSign k5_BadSign "ValueError.__new__"))
    (ve_BadSign : PySem.HandSPX.refsVE bm_BadSign = true)
    (sa_BadSign : PySem.W.findIn K (.ref c_BadSign) "__setattr__" = some (some (.builtin "object.__setattr__")))
    (eb_BadSign : PySem.W.subIn K (.ref c_BadSign) (.type "BaseException") = some true)
    (ev_BadSign : PySem.W.subIn K (.ref c_BadSign) (.type "ValueError") = some true)
    (ty_BadSign : PySem.W.typeIn K (.ref c_BadSign) = some (.type "type"))
    (kc_BadSign : PySem.W.keepIn K (.ref c_BadSign) = true)
    (ga_BadSign : PySem.W.findIn K (.ref c_BadSign) "__getattribute__" = some (some (.builtin "BaseException.__getattribute__")))
    (gg_BadSign : PySem.W.findIn K (.ref c_BadSign) "__getattr__" = some none)
    (nf_BadSign : PySem.W.findIn K (.ref c_BadSign) "at" = some none)
    (hd_BadSign : PySem.W.hasDictIn K c_BadSign = true)
    (mc_BadSign : PySem.W.mroIn K c_BadSign (.ref c_BadSign) = some true)
    (si_BadSign : PySem.W.ks_superIn K c_BadSign c_BadSign "__init__" = some (some (.builtin "ValueError.__init__")))
    (i_BadSign_init : PySem.W.findIn K (.ref c_BadSign) "__init__" = some (some (.ref f_BadSign_init)))
    (t_BadSign_init : PySem.W.typeIn K (.ref f_BadSign_init) = some (.type "function"))
    (l_BadSign_init : K.lookup f_BadSign_init = some ⟨oc_BadSign_init, od_BadSign_init, .func (PySem.W.ksFn "__init__" "BadSign.__init__" (defArgs s_BadSign_init) (defBody s_BadSign_init) (defScope s_BadSign_init) .none kV_BadSign_init dc_BadSign_init pm_BadSign_init an_BadSign_init (.ref cda_BadSign_init) ct_BadSign_init cc_BadSign_init), sl_BadSign_init⟩)
    (d_BadSign_init : PySem.W.codeIn K (.ref cda_BadSign_init) "BadSign.__init__" = true)
    (e_BadSign_init : K.lookup cda_BadSign_init = some ⟨ccl_BadSign_init, cdd_BadSign_init, .fields vs_BadSign_init, cs_BadSign_init⟩)
    (v_BadSign_init : vs_BadSign_init[2]? = some (.str fl_BadSign_init tf_BadSign_init))
    (g_BadSign_init : ((prg.main.file : Str) == fl_BadSign_init) = true)
    (h_BadSign_init : K.lookup cc_BadSign_init = some ⟨cl_BadSign_init, cld_BadSign_init, .cell (some (.ref c_BadSign)), ls_BadSign_init⟩)
    (em_BadSign_BadSign : PySem.W.exmOne K (.ref c_BadSign) (.ref c_BadSign) = some true)
    (a_BadHeight : PySem.W.nsIn K mainGlobals "BadHeight" = some (some (.ref c_BadHeight)))
    (l_BadHeight : K.lookup c_BadHeight = some (excClassObj nm_BadHeight q_BadHeight c_BadHeight N_BadHeight bs_BadHeight bm_BadHeight true sn_BadHeight sub_BadHeight ab_BadHeight col_BadHeight dd_BadHeight k0_BadHeight k1_BadHeight k2_BadHeight k3_BadHeight k5_BadHeight "ValueError.__new__"))
    (ve_BadHeight : PySem.HandSPX.refsVE bm_BadHeight = true)
    (sa_BadHeight : PySem.W.findIn K (.ref c_BadHeight) "__setattr__" = some (some (.builtin "object.__setattr__")))
    (eb_BadHeight : PySem.W.subIn K (.ref c_BadHeight) (.type "BaseException") = some true)
    (ev_BadHeight : PySem.W.subIn K (.ref c_BadHeight) (.type "ValueError") = some true)
    (ty_BadHeight : PySem.W.typeIn K (.ref c_BadHeight) = some (.type "type"))
    (kc_BadHeight : PySem.W.keepIn K (.ref c_BadHeight) = true)
    (ga_BadHeight : PySem.W.findIn K (.ref c_BadHeight) "__getattribute__" = some (some (.builtin "BaseException.__getattribute__")))
    (gg_BadHeight : PySem.W.findIn K (.ref c_BadHeight) "__getattr__" = some none)
    (nf_BadHeight : PySem.W.findIn K (.ref c_BadHeight) "height" = some none)
    (hd_BadHeight : PySem.W.hasDictIn K c_BadHeight = true)
    (mc_BadHeight : PySem.W.mroIn K c_BadHeight (.ref c_BadHeight) = some true)
    (si_BadHeight : PySem.W.ks_superIn K c_BadHeight c_BadHeight "__init__" = some (some (.builtin "ValueError.__init__")))
    (i_BadHeight_init : PySem.W.findIn K (.ref c_BadHeight) "__init__" = some (some (.ref f_BadHeight_init)))
    (t_BadHeight_init : PySem.W.typeIn K (.ref f_BadHeight_init) = some (.type "function"))
    (l_BadHeight_init : K.lookup f_BadHeight_init = some ⟨oc_BadHeight_init, od_BadHeight_init, .func (PySem.W.ksFn "__init__" "BadHeight.__init__" (defArgs s_BadHeight_init) (defBody s_BadHeight_init) (defScope s_BadHeight_init) .none kV_BadHeight_init dc_BadHeight_init pm_BadHeight_init an_BadHeight_init (.ref cda_BadHeight_init) ct_BadHeight_init cc_BadHeight_init), sl_BadHeight_init⟩)
    (d_BadHeight_init : PySem.W.codeIn K (.ref cda_BadHeight_init) "BadHeight.__init__" = true)
    (e_BadHeight_init : K.lookup cda_BadHeight_init = some ⟨ccl_BadHeight_init, cdd_BadHeight_init, .fields vs_BadHeight_init, cs_BadHeight_init⟩)
    (v_BadHeight_init : vs_BadHeight_init[2]? = some (.str fl_BadHeight_init tf_BadHeight_init))
    (g_BadHeight_init : ((prg.main.file : Str) == fl_BadHeight_init) = true)
    (h_BadHeight_init : K.lookup cc_BadHeight_init = some ⟨cl_BadHeight_init, cld_BadHeight_init, .cell (some (.ref c_BadHeight)), ls_BadHeight_init⟩)
    (em_BadHeight_BadSign : PySem.W.exmOne K (.ref c_BadHeight) (.ref c_BadSign) = some false)
    (em_BadHeight_BadHeight : PySem.W.exmOne K (.ref c_BadHeight) (.ref c_BadHeight) = some true)
    (a_BadLine : PySem.W.nsIn K mainGlobals "BadLine" = some (some (.ref c_BadLine)))
    (l_BadLine : K.lookup c_BadLine = some (excClassObj nm_BadLine q_BadLine c_BadLine N_BadLine bs_BadLine bm_BadLine true sn_BadLine sub_BadLine ab_BadLine col_BadLine dd_BadLine k0_BadLine k1_BadLine k2_BadLine k3_BadLine k5_BadLine "ValueError.__new__"))
    (ve_BadLine : PySem.HandSPX.refsVE bm_BadLine = true)
    (sa_BadLine : PySem.W.findIn K (.ref c_BadLine) "__setattr__" = some (some (.builtin "object.__setattr__")))
    (eb_BadLine : PySem.W.subIn K (.ref c_BadLine) (.type "BaseException") = some true)
    (ev_BadLine : PySem.W.subIn K (.ref c_BadLine) (.type "ValueError") = some true)
    (ty_BadLine : PySem.W.typeIn K (.ref c_BadLine) = some (.type "type"))
    (kc_BadLine : PySem.W.keepIn K (.ref c_BadLine) = true)
    (ga_BadLine : PySem.W.findIn K (.ref c_BadLine) "__getattribute__" = some (some (.builtin "BaseException.__getattribute__")))
    (gg_BadLine : PySem.W.findIn K (.ref c_BadLine) "__getattr__" = some none)
    (nf_BadLine : PySem.W.findIn K (.ref c_BadLine) "line" = some none)
    (hd_BadLine : PySem.W.hasDictIn K c_BadLine = true)
    (mc_BadLine : PySem.W.mroIn K c_BadLine (.ref c_BadLine) = some true)
    (si_BadLine : PySem.W.ks_superIn K c_BadLine c_BadLine "__init__" = some (some (.builtin "ValueError.__init__")))
    (i_BadLine_init : PySem.W.findIn K (.ref c_BadLine) "__init__" = some (some (.ref f_BadLine_init)))
    (t_BadLine_init : PySem.W.typeIn K (.ref f_BadLine_init) = some (.type "function"))
    (l_BadLine_init : K.lookup f_BadLine_init = some ⟨oc_BadLine_init, od_BadLine_init, .func (PySem.W.ksFn "__init__" "BadLine.__init__" (defArgs s_BadLine_init) (defBody s_BadLine_init) (defScope s_BadLine_init) .none kV_BadLine_init dc_BadLine_init pm_BadLine_init an_BadLine_init (.ref cda_BadLine_init) ct_BadLine_init cc_BadLine_init), sl_BadLine_init⟩)
    (d_BadLine_init : PySem.W.codeIn K (.ref cda_BadLine_init) "BadLine.__init__" = true)
    (e_BadLine_init : K.lookup cda_BadLine_init = some ⟨ccl_BadLine_init, cdd_BadLine_init, .fields vs_BadLine_init, cs_BadLine_init⟩)
    (v_BadLine_init : vs_BadLine_init[2]? = some (.str fl_BadLine_init tf_BadLine_init))
    (g_BadLine_init : ((prg.main.file : Str) == fl_BadLine_init) = true)
    (h_BadLine_init : K.lookup cc_BadLine_init = some ⟨cl_BadLine_init, cld_BadLine_init, .cell (some (.ref c_BadLine)), ls_BadLine_init⟩)
    (em_BadLine_BadSign : PySem.W.exmOne K (.ref c_BadLine) (.ref c_BadSign) = some false)
    (em_BadLine_BadHeight : PySem.W.exmOne K (.ref c_BadLine) (.ref c_BadHeight) = some false)
    (em_BadLine_BadLine : PySem.W.exmOne K (.ref c_BadLine) (.ref c_BadLine) = some true)
    (a_Uneven : PySem.W.nsIn K mainGlobals "Uneven" = some (some (.ref c_Uneven)))
    (o_Uneven : PySem.W.excIn K c_Uneven [.type "ValueError", .type "Exception", .type "BaseException", .type "object"] "ValueError.__new__" = true)
    (kp_Uneven : PySem.W.keepIn K (.ref c_Uneven) = true)
    (r_Uneven : PySem.W.subIn K (.ref c_Uneven) (.type "BaseException") = some true)
    (t_Uneven : PySem.W.typeIn K (.ref c_Uneven) = some (.type "type"))
    (em_Uneven_BadSign : PySem.W.exmOne K (.ref c_Uneven) (.ref c_BadSign) = some false)
    (em_Uneven_BadHeight : PySem.W.exmOne K (.ref c_Uneven) (.ref c_BadHeight) = some false)
    (em_Uneven_BadLine : PySem.W.exmOne K (.ref c_Uneven) (.ref c_BadLine) = some false)
    (em_Uneven_Uneven : PySem.W.exmOne K (.ref c_Uneven) (.ref c_Uneven) = some true)
    (a_BadRule : PySem.W.nsIn K mainGlobals "BadRule" = some (some (.ref c_BadRule)))
    (o_BadRule : PySem.W.excIn K c_BadRule [.type "ValueError", .type "Exception", .type "BaseException", .type "object"] "ValueError.__new__" = true)
    (kp_BadRule : PySem.W.keepIn K (.ref c_BadRule) = true)
    (r_BadRule : PySem.W.subIn K (.ref c_BadRule) (.type "BaseException") = some true)
    (t_BadRule : PySem.W.typeIn K (.ref c_BadRule) = some (.type "type"))
    (em_BadRule_BadSign : PySem.W.exmOne K (.ref c_BadRule) (.ref c_BadSign) = some false)
    (em_BadRule_BadHeight : PySem.W.exmOne K (.ref c_BadRule) (.ref c_BadHeight) = some false)
    (em_BadRule_BadLine : PySem.W.exmOne K (.ref c_BadRule) (.ref c_BadLine) = some false)
    (em_BadRule_Uneven : PySem.W.exmOne K (.ref c_BadRule) (.ref c_Uneven) = some false)
    (em_BadRule_BadRule : PySem.W.exmOne K (.ref c_BadRule) (.ref c_BadRule) = some true)
    (a_BookFull : PySem.W.nsIn K mainGlobals "BookFull" = some (some (.ref c_BookFull)))
    (o_BookFull : PySem.W.excIn K c_BookFull [.type "ValueError", .type "Exception", .type "BaseException", .type "object"] "ValueError.__new__" = true)
    (kp_BookFull : PySem.W.keepIn K (.ref c_BookFull) = true)
    (r_BookFull : PySem.W.subIn K (.ref c_BookFull) (.type "BaseException") = some true)
    (t_BookFull : PySem.W.typeIn K (.ref c_BookFull) = some (.type "type"))
    (em_BookFull_BadSign : PySem.W.exmOne K (.ref c_BookFull) (.ref c_BadSign) = some false)
    (em_BookFull_BadHeight : PySem.W.exmOne K (.ref c_BookFull) (.ref c_BadHeight) = some false)
    (em_BookFull_BadLine : PySem.W.exmOne K (.ref c_BookFull) (.ref c_BadLine) = some false)
    (em_BookFull_Uneven : PySem.W.exmOne K (.ref c_BookFull) (.ref c_Uneven) = some false)
    (em_BookFull_BadRule : PySem.W.exmOne K (.ref c_BookFull) (.ref c_BadRule) = some false)
    (em_BookFull_BookFull : PySem.W.exmOne K (.ref c_BookFull) (.ref c_BookFull) = some true)
    (em_BadSign_BadHeight : PySem.W.exmOne K (.ref c_BadSign) (.ref c_BadHeight) = some false)
    (em_BadSign_BadLine : PySem.W.exmOne K (.ref c_BadSign) (.ref c_BadLine) = some false)
    (em_BadSign_Uneven : PySem.W.exmOne K (.ref c_BadSign) (.ref c_Uneven) = some false)
    (em_BadSign_BadRule : PySem.W.exmOne K (.ref c_BadSign) (.ref c_BadRule) = some false)
    (em_BadSign_BookFull : PySem.W.exmOne K (.ref c_BadSign) (.ref c_BookFull) = some false)
    (em_BadHeight_BadLine : PySem.W.exmOne K (.ref c_BadHeight) (.ref c_BadLine) = some false)
    (em_BadHeight_Uneven : PySem.W.exmOne K (.ref c_BadHeight) (.ref c_Uneven) = some false)
    (em_BadHeight_BadRule : PySem.W.exmOne K (.ref c_BadHeight) (.ref c_BadRule) = some false)
    (em_BadHeight_BookFull : PySem.W.exmOne K (.ref c_BadHeight) (.ref c_BookFull) = some false)
    (em_BadLine_Uneven : PySem.W.exmOne K (.ref c_BadLine) (.ref c_Uneven) = some false)
    (em_BadLine_BadRule : PySem.W.exmOne K (.ref c_BadLine) (.ref c_BadRule) = some false)
    (em_BadLine_BookFull : PySem.W.exmOne K (.ref c_BadLine) (.ref c_BookFull) = some false)
    (em_Uneven_BadRule : PySem.W.exmOne K (.ref c_Uneven) (.ref c_BadRule) = some false)
    (em_Uneven_BookFull : PySem.W.exmOne K (.ref c_Uneven) (.ref c_BookFull) = some false)
    (em_BadRule_BookFull : PySem.W.exmOne K (.ref c_BadRule) (.ref c_BookFull) = some false)
    (z_super : PySem.W.nsIn K mainGlobals "super" = some none)
    (ops : PySem.W.nsIn K cStatics "thirdparty.any" = some none)
    (a_Row : PySem.W.nsIn K mainGlobals "Row" = some (some (.ref c_Row)))
    (pg_Row : PySem.W.plainGet K c_Row Str.empty = true)
    (hd_Row : PySem.W.hasDictIn K c_Row = true)
    (po_Row : PySem.W.plainOver K c_Row = true)
    (sa_Row : PySem.W.findIn K (.ref c_Row) "__setattr__" = some (some (.builtin "object.__setattr__")))
    (mk_Row : PySem.W.makesIn K c_Row = true)
    (kc_Row : PySem.W.keepIn K (.ref c_Row) = true)
    (j0_Row : PySem.W.findIn K (.ref c_Row) "__class__" = some (some (.builtin "object.__class__")))
    (j1_Row : PySem.W.specialIn K (.builtin "object.__class__") "__get__" = some (some (.builtin "getset_descriptor.__get__")))
    (j2_Row : PySem.W.takesIn K (.builtin "object.__class__") = some true)
    (j3_Row : PySem.W.mroIn K c_Row (.type "object") = some true)
    (j4_Row : PySem.W.kitOne K (.ref c_Row) (.ref c_Row) = some true)
    (sf_Row : PySem.W.selfFirst K c_Row = true)
    (nsq_Row : PySem.W.noSeq K c_Row = true)
    (na_Row__pairs : PySem.W.findIn K (.ref c_Row) "_pairs" = some none)
    (a_Rule : PySem.W.nsIn K mainGlobals "Rule" = some (some (.ref c_Rule)))
    (pg_Rule : PySem.W.plainGet K c_Rule Str.empty = true)
    (hd_Rule : PySem.W.hasDictIn K c_Rule = true)
    (po_Rule : PySem.W.plainOver K c_Rule = true)
    (sa_Rule : PySem.W.findIn K (.ref c_Rule) "__setattr__" = some (some (.builtin "object.__setattr__")))
    (mk_Rule : PySem.W.makesIn K c_Rule = true)
    (kc_Rule : PySem.W.keepIn K (.ref c_Rule) = true)
    (j0_Rule : PySem.W.findIn K (.ref c_Rule) "__class__" = some (some (.builtin "object.__class__")))
    (j1_Rule : PySem.W.specialIn K (.builtin "object.__class__") "__get__" = some (some (.builtin "getset_descriptor.__get__")))
    (j2_Rule : PySem.W.takesIn K (.builtin "object.__class__") = some true)
    (j3_Rule : PySem.W.mroIn K c_Rule (.type "object") = some true)
    (j4_Rule : PySem.W.kitOne K (.ref c_Rule) (.ref c_Rule) = some true)
    (sf_Rule : PySem.W.selfFirst K c_Rule = true)
    (na_Rule_left : PySem.W.findIn K (.ref c_Rule) "left" = some none)
    (na_Rule_right : PySem.W.findIn K (.ref c_Rule) "right" = some none)
    (a_Book : PySem.W.nsIn K mainGlobals "Book" = some (some (.ref c_Book)))
    (pg_Book : PySem.W.plainGet K c_Book Str.empty = true)
    (hd_Book : PySem.W.hasDictIn K c_Book = true)
    (po_Book : PySem.W.plainOver K c_Book = true)
    (sa_Book : PySem.W.findIn K (.ref c_Book) "__setattr__" = some (some (.builtin "object.__setattr__")))
    (mk_Book : PySem.W.makesIn K c_Book = true)
    (kc_Book : PySem.W.keepIn K (.ref c_Book) = true)
    (j0_Book : PySem.W.findIn K (.ref c_Book) "__class__" = some (some (.builtin "object.__class__")))
    (j1_Book : PySem.W.specialIn K (.builtin "object.__class__") "__get__" = some (some (.builtin "getset_descriptor.__get__")))
    (j2_Book : PySem.W.takesIn K (.builtin "object.__class__") = some true)
    (j3_Book : PySem.W.mroIn K c_Book (.type "object") = some true)
    (j4_Book : PySem.W.kitOne K (.ref c_Book) (.ref c_Book) = some true)
    (sf_Book : PySem.W.selfFirst K c_Book = true)
    (na_Book__rules : PySem.W.findIn K (.ref c_Book) "_rules" = some none)
    (a_check_text : PySem.W.nsIn K mainGlobals "check_text" = some (some (.ref f_check_text)))
    (l_check_text : K.lookup f_check_text = some ⟨oc_check_text, od_check_text, .func (PySem.W.fnOf "check_text" "check_text" (defArgs s_check_text) (defBody s_check_text) (defScope s_check_text) .none kV_check_text dc_check_text pm_check_text an_check_text cd_check_text ct_check_text), sl_check_text⟩)
    (d_check_text : PySem.W.codeIn K cd_check_text "check_text" = true)
    (k_check_text : PySem.W.keepIn K (.ref f_check_text) = true)
    (a_decoded : PySem.W.nsIn K mainGlobals "decoded" = some (some (.ref f_decoded)))
    (l_decoded : K.lookup f_decoded = some ⟨oc_decoded, od_decoded, .func (PySem.W.fnOf "decoded" "decoded" (defArgs s_decoded) (defBody s_decoded) (defScope s_decoded) .none kV_decoded dc_decoded pm_decoded an_decoded cd_decoded ct_decoded), sl_decoded⟩)
    (d_decoded : PySem.W.codeIn K cd_decoded "decoded" = true)
    (k_decoded : PySem.W.keepIn K (.ref f_decoded) = true)
    (a_check_height : PySem.W.nsIn K mainGlobals "check_height" = some (some (.ref f_check_height)))
    (l_check_height : K.lookup f_check_height = some ⟨oc_check_height, od_check_height, .func (PySem.W.fnOf "check_height" "check_height" (defArgs s_check_height) (defBody s_check_height) (defScope s_check_height) .none kV_check_height dc_check_height pm_check_height an_check_height cd_check_height ct_check_height), sl_check_height⟩)
    (d_check_height : PySem.W.codeIn K cd_check_height "check_height" = true)
    (k_check_height : PySem.W.keepIn K (.ref f_check_height) = true)
    (a_Row_init : PySem.W.findIn K (.ref c_Row) "__init__" = some (some (.ref f_Row_init)))
    (i_Row_init : PySem.W.isFn K (.ref f_Row_init) = true)
    (l_Row_init : K.lookup f_Row_init = some ⟨oc_Row_init, od_Row_init, .func (PySem.W.fnOf "__init__" "Row.__init__" (defArgs s_Row_init) (defBody s_Row_init) (defScope s_Row_init) (.ref dT_Row_init) kV_Row_init dc_Row_init pm_Row_init an_Row_init cd_Row_init ct_Row_init), sl_Row_init⟩)
    (d_Row_init : PySem.W.codeIn K cd_Row_init "Row.__init__" = true)
    (k_Row_init : PySem.W.keepIn K (.ref f_Row_init) = true)
    (u_Row_init : K.lookup dT_Row_init = some ⟨uc_Row_init, ud_Row_init, .seq ([.str "" tk0_Row_init, .none] : List Value).toArray un_Row_init, us_Row_init⟩)
    (a_Row_len : PySem.W.findIn K (.ref c_Row) "__len__" = some (some (.ref f_Row_len)))
    (i_Row_len : PySem.W.isFn K (.ref f_Row_len) = true)
    (l_Row_len : K.lookup f_Row_len = some ⟨oc_Row_len, od_Row_len, .func (PySem.W.fnOf "__len__" "Row.__len__" (defArgs s_Row_len) (defBody s_Row_len) (defScope s_Row_len) .none kV_Row_len dc_Row_len pm_Row_len an_Row_len cd_Row_len ct_Row_len), sl_Row_len⟩)
    (d_Row_len : PySem.W.codeIn K cd_Row_len "Row.__len__" = true)
    (k_Row_len : PySem.W.keepIn K (.ref f_Row_len) = true)
    (a_Rule_init : PySem.W.findIn K (.ref c_Rule) "__init__" = some (some (.ref f_Rule_init)))
    (i_Rule_init : PySem.W.isFn K (.ref f_Rule_init) = true)
    (l_Rule_init : K.lookup f_Rule_init = some ⟨oc_Rule_init, od_Rule_init, .func (PySem.W.fnOf "__init__" "Rule.__init__" (defArgs s_Rule_init) (defBody s_Rule_init) (defScope s_Rule_init) (.ref dT_Rule_init) kV_Rule_init dc_Rule_init pm_Rule_init an_Rule_init cd_Rule_init ct_Rule_init), sl_Rule_init⟩)
    (d_Rule_init : PySem.W.codeIn K cd_Rule_init "Rule.__init__" = true)
    (k_Rule_init : PySem.W.keepIn K (.ref f_Rule_init) = true)
    (u_Rule_init : K.lookup dT_Rule_init = some ⟨uc_Rule_init, ud_Rule_init, .seq ([.str "" tk0_Rule_init] : List Value).toArray un_Rule_init, us_Rule_init⟩)
    (a_Rule_str : PySem.W.findIn K (.ref c_Rule) "__str__" = some (some (.ref f_Rule_str)))
    (i_Rule_str : PySem.W.isFn K (.ref f_Rule_str) = true)
    (l_Rule_str : K.lookup f_Rule_str = some ⟨oc_Rule_str, od_Rule_str, .func (PySem.W.fnOf "__str__" "Rule.__str__" (defArgs s_Rule_str) (defBody s_Rule_str) (defScope s_Rule_str) .none kV_Rule_str dc_Rule_str pm_Rule_str an_Rule_str cd_Rule_str ct_Rule_str), sl_Rule_str⟩)
    (d_Rule_str : PySem.W.codeIn K cd_Rule_str "Rule.__str__" = true)
    (k_Rule_str : PySem.W.keepIn K (.ref f_Rule_str) = true)
    (a_Book_init : PySem.W.findIn K (.ref c_Book) "__init__" = some (some (.ref f_Book_init)))
    (i_Book_init : PySem.W.isFn K (.ref f_Book_init) = true)
    (l_Book_init : K.lookup f_Book_init = some ⟨oc_Book_init, od_Book_init, .func (PySem.W.fnOf "__init__" "Book.__init__" (defArgs s_Book_init) (defBody s_Book_init) (defScope s_Book_init) .none kV_Book_init dc_Book_init pm_Book_init an_Book_init cd_Book_init ct_Book_init), sl_Book_init⟩)
    (d_Book_init : PySem.W.codeIn K cd_Book_init "Book.__init__" = true)
    (k_Book_init : PySem.W.keepIn K (.ref f_Book_init) = true)
    (a_Book_iter : PySem.W.findIn K (.ref c_Book) "__iter__" = some (some (.ref f_Book_iter)))
    (i_Book_iter : PySem.W.isFn K (.ref f_Book_iter) = true)
    (l_Book_iter : K.lookup f_Book_iter = some ⟨oc_Book_iter, od_Book_iter, .func (PySem.W.fnOf "__iter__" "Book.__iter__" (defArgs s_Book_iter) (defBody s_Book_iter) (defScope s_Book_iter) .none kV_Book_iter dc_Book_iter pm_Book_iter an_Book_iter cd_Book_iter ct_Book_iter), sl_Book_iter⟩)
    (d_Book_iter : PySem.W.codeIn K cd_Book_iter "Book.__iter__" = true)
    (k_Book_iter : PySem.W.keepIn K (.ref f_Book_iter) = true)
    (a_Book_written : PySem.W.findIn K (.ref c_Book) "written" = some (some (.ref f_Book_written)))
    (i_Book_written : PySem.W.isFn K (.ref f_Book_written) = true)
    (l_Book_written : K.lookup f_Book_written = some ⟨oc_Book_written, od_Book_written, .func (PySem.W.fnOf "written" "Book.written" (defArgs s_Book_written) (defBody s_Book_written) (defScope s_Book_written) .none kV_Book_written dc_Book_written pm_Book_written an_Book_written cd_Book_written ct_Book_written), sl_Book_written⟩)
    (d_Book_written : PySem.W.codeIn K cd_Book_written "Book.written" = true)
    (k_Book_written : PySem.W.keepIn K (.ref f_Book_written) = true)
    (a_Book_data : PySem.W.findIn K (.ref c_Book) "data" = some (some (.ref f_Book_data)))
    (i_Book_data : PySem.W.isFn K (.ref f_Book_data) = true)
    (l_Book_data : K.lookup f_Book_data = some ⟨oc_Book_data, od_Book_data, .func (PySem.W.fnOf "data" "Book.data" (defArgs s_Book_data) (defBody s_Book_data) (defScope s_Book_data) .none kV_Book_data dc_Book_data pm_Book_data an_Book_data cd_Book_data ct_Book_data), sl_Book_data⟩)
    (d_Book_data : PySem.W.codeIn K cd_Book_data "Book.data" = true)
    (k_Book_data : PySem.W.keepIn K (.ref f_Book_data) = true)
    (a__read_rule : PySem.W.nsIn K mainGlobals "_read_rule" = some (some (.ref f__read_rule)))
    (l__read_rule : K.lookup f__read_rule = some ⟨oc__read_rule, od__read_rule, .func (PySem.W.fnOf "_read_rule" "_read_rule" (defArgs s__read_rule) (defBody s__read_rule) (defScope s__read_rule) .none kV__read_rule dc__read_rule pm__read_rule an__read_rule cd__read_rule ct__read_rule), sl__read_rule⟩)
    (d__read_rule : PySem.W.codeIn K cd__read_rule "_read_rule" = true)
    (k__read_rule : PySem.W.keepIn K (.ref f__read_rule) = true)
    (cr1_Book_read : PySem.W.readsIn K c_Book (.type "type") = true)
    (cr2_Book_read : PySem.W.specialIn K (.ref c_Book) "__getattribute__" = some (some (.builtin "type.__getattribute__")))
    (a_Book_read : PySem.W.findCls K (.ref c_Book) (.type "type") "read" = some (.get (.builtin "classmethod.__get__") (.ref p_Book_read) .none (.ref c_Book)))
    (pr_Book_read : PySem.W.recIn K p_Book_read "classmethod" = some (.ref f_Book_read :: rs_Book_read))
    (fi_Book_read : PySem.W.fnIn K f_Book_read = true)
    (l_Book_read : K.lookup f_Book_read = some ⟨oc_Book_read, od_Book_read, .func (PySem.W.fnOf "read" "Book.read" (defArgs s_Book_read) (defBody s_Book_read) (defScope s_Book_read) .none kV_Book_read dc_Book_read pm_Book_read an_Book_read cd_Book_read ct_Book_read), sl_Book_read⟩)
    (d_Book_read : PySem.W.codeIn K cd_Book_read "Book.read" = true)
    (k_Book_read : PySem.W.keepIn K (.ref f_Book_read) = true)
    (a__law_pool : PySem.W.nsIn K mainGlobals "_law_pool" = some (some (.ref f__law_pool)))
    (l__law_pool : K.lookup f__law_pool = some ⟨oc__law_pool, od__law_pool, .func (PySem.W.fnOf "_law_pool" "_law_pool" (defArgs s__law_pool) (defBody s__law_pool) (defScope s__law_pool) .none kV__law_pool dc__law_pool pm__law_pool an__law_pool cd__law_pool ct__law_pool), sl__law_pool⟩)
    (d__law_pool : PySem.W.codeIn K cd__law_pool "_law_pool" = true)
    (k__law_pool : PySem.W.keepIn K (.ref f__law_pool) = true)
    (a__law_pick : PySem.W.nsIn K mainGlobals "_law_pick" = some (some (.ref f__law_pick)))
    (l__law_pick : K.lookup f__law_pick = some ⟨oc__law_pick, od__law_pick, .func (PySem.W.fnOf "_law_pick" "_law_pick" (defArgs s__law_pick) (defBody s__law_pick) (defScope s__law_pick) .none kV__law_pick dc__law_pick pm__law_pick an__law_pick cd__law_pick ct__law_pick), sl__law_pick⟩)
    (d__law_pick : PySem.W.codeIn K cd__law_pick "_law_pick" = true)
    (k__law_pick : PySem.W.keepIn K (.ref f__law_pick) = true)
    (a__law_alphabet : PySem.W.nsIn K mainGlobals "_law_alphabet" = some (some (.ref f__law_alphabet)))
    (l__law_alphabet : K.lookup f__law_alphabet = some ⟨oc__law_alphabet, od__law_alphabet, .func (PySem.W.fnOf "_law_alphabet" "_law_alphabet" (defArgs s__law_alphabet) (defBody s__law_alphabet) (defScope s__law_alphabet) .none kV__law_alphabet dc__law_alphabet pm__law_alphabet an__law_alphabet cd__law_alphabet ct__law_alphabet), sl__law_alphabet⟩)
    (d__law_alphabet : PySem.W.codeIn K cd__law_alphabet "_law_alphabet" = true)
    (k__law_alphabet : PySem.W.keepIn K (.ref f__law_alphabet) = true)
    (a__law_word_of : PySem.W.nsIn K mainGlobals "_law_word_of" = some (some (.ref f__law_word_of)))
    (l__law_word_of : K.lookup f__law_word_of = some ⟨oc__law_word_of, od__law_word_of, .func (PySem.W.fnOf "_law_word_of" "_law_word_of" (defArgs s__law_word_of) (defBody s__law_word_of) (defScope s__law_word_of) .none kV__law_word_of dc__law_word_of pm__law_word_of an__law_word_of cd__law_word_of ct__law_word_of), sl__law_word_of⟩)
    (d__law_word_of : PySem.W.codeIn K cd__law_word_of "_law_word_of" = true)
    (k__law_word_of : PySem.W.keepIn K (.ref f__law_word_of) = true)
    (a__law_is_int : PySem.W.nsIn K mainGlobals "_law_is_int" = some (some (.ref f__law_is_int)))
    (l__law_is_int : K.lookup f__law_is_int = some ⟨oc__law_is_int, od__law_is_int, .func (PySem.W.fnOf "_law_is_int" "_law_is_int" (defArgs s__law_is_int) (defBody s__law_is_int) (defScope s__law_is_int) .none kV__law_is_int dc__law_is_int pm__law_is_int an__law_is_int cd__law_is_int ct__law_is_int), sl__law_is_int⟩)
    (d__law_is_int : PySem.W.codeIn K cd__law_is_int "_law_is_int" = true)
    (k__law_is_int : PySem.W.keepIn K (.ref f__law_is_int) = true)
    (a__law_odd_sign : PySem.W.nsIn K mainGlobals "_law_odd_sign" = some (some (.ref f__law_odd_sign)))
    (l__law_odd_sign : K.lookup f__law_odd_sign = some ⟨oc__law_odd_sign, od__law_odd_sign, .func (PySem.W.fnOf "_law_odd_sign" "_law_odd_sign" (defArgs s__law_odd_sign) (defBody s__law_odd_sign) (defScope s__law_odd_sign) .none kV__law_odd_sign dc__law_odd_sign pm__law_odd_sign an__law_odd_sign cd__law_odd_sign ct__law_odd_sign), sl__law_odd_sign⟩)
    (d__law_odd_sign : PySem.W.codeIn K cd__law_odd_sign "_law_odd_sign" = true)
    (k__law_odd_sign : PySem.W.keepIn K (.ref f__law_odd_sign) = true)
    (a__law_first_odd : PySem.W.nsIn K mainGlobals "_law_first_odd" = some (some (.ref f__law_first_odd)))
    (l__law_first_odd : K.lookup f__law_first_odd = some ⟨oc__law_first_odd, od__law_first_odd, .func (PySem.W.fnOf "_law_first_odd" "_law_first_odd" (defArgs s__law_first_odd) (defBody s__law_first_odd) (defScope s__law_first_odd) .none kV__law_first_odd dc__law_first_odd pm__law_first_odd an__law_first_odd cd__law_first_odd ct__law_first_odd), sl__law_first_odd⟩)
    (d__law_first_odd : PySem.W.codeIn K cd__law_first_odd "_law_first_odd" = true)
    (k__law_first_odd : PySem.W.keepIn K (.ref f__law_first_odd) = true)
    (a__law_is_text : PySem.W.nsIn K mainGlobals "_law_is_text" = some (some (.ref f__law_is_text)))
    (l__law_is_text : K.lookup f__law_is_text = some ⟨oc__law_is_text, od__law_is_text, .func (PySem.W.fnOf "_law_is_text" "_law_is_text" (defArgs s__law_is_text) (defBody s__law_is_text) (defScope s__law_is_text) .none kV__law_is_text dc__law_is_text pm__law_is_text an__law_is_text cd__law_is_text ct__law_is_text), sl__law_is_text⟩)
    (d__law_is_text : PySem.W.codeIn K cd__law_is_text "_law_is_text" = true)
    (k__law_is_text : PySem.W.keepIn K (.ref f__law_is_text) = true)
    (a__law_due_of : PySem.W.nsIn K mainGlobals "_law_due_of" = some (some (.ref f__law_due_of)))
    (l__law_due_of : K.lookup f__law_due_of = some ⟨oc__law_due_of, od__law_due_of, .func (PySem.W.fnOf "_law_due_of" "_law_due_of" (defArgs s__law_due_of) (defBody s__law_due_of) (defScope s__law_due_of) .none kV__law_due_of dc__law_due_of pm__law_due_of an__law_due_of cd__law_due_of ct__law_due_of), sl__law_due_of⟩)
    (d__law_due_of : PySem.W.codeIn K cd__law_due_of "_law_due_of" = true)
    (k__law_due_of : PySem.W.keepIn K (.ref f__law_due_of) = true)
    (a__law_try_make : PySem.W.nsIn K mainGlobals "_law_try_make" = some (some (.ref f__law_try_make)))
    (l__law_try_make : K.lookup f__law_try_make = some ⟨oc__law_try_make, od__law_try_make, .func (PySem.W.fnOf "_law_try_make" "_law_try_make" (defArgs s__law_try_make) (defBody s__law_try_make) (defScope s__law_try_make) .none kV__law_try_make dc__law_try_make pm__law_try_make an__law_try_make cd__law_try_make ct__law_try_make), sl__law_try_make⟩)
    (d__law_try_make : PySem.W.codeIn K cd__law_try_make "_law_try_make" = true)
    (k__law_try_make : PySem.W.keepIn K (.ref f__law_try_make) = true)
    (a__law_same : PySem.W.nsIn K mainGlobals "_law_same" = some (some (.ref f__law_same)))
    (l__law_same : K.lookup f__law_same = some ⟨oc__law_same, od__law_same, .func (PySem.W.fnOf "_law_same" "_law_same" (defArgs s__law_same) (defBody s__law_same) (defScope s__law_same) .none kV__law_same dc__law_same pm__law_same an__law_same cd__law_same ct__law_same), sl__law_same⟩)
    (d__law_same : PySem.W.codeIn K cd__law_same "_law_same" = true)
    (k__law_same : PySem.W.keepIn K (.ref f__law_same) = true)
    (a__law_first_bad : PySem.W.nsIn K mainGlobals "_law_first_bad" = some (some (.ref f__law_first_bad)))
    (l__law_first_bad : K.lookup f__law_first_bad = some ⟨oc__law_first_bad, od__law_first_bad, .func (PySem.W.fnOf "_law_first_bad" "_law_first_bad" (defArgs s__law_first_bad) (defBody s__law_first_bad) (defScope s__law_first_bad) .none kV__law_first_bad dc__law_first_bad pm__law_first_bad an__law_first_bad cd__law_first_bad ct__law_first_bad), sl__law_first_bad⟩)
    (d__law_first_bad : PySem.W.codeIn K cd__law_first_bad "_law_first_bad" = true)
    (k__law_first_bad : PySem.W.keepIn K (.ref f__law_first_bad) = true)
    (a__law_change : PySem.W.nsIn K mainGlobals "_law_change" = some (some (.ref f__law_change)))
    (l__law_change : K.lookup f__law_change = some ⟨oc__law_change, od__law_change, .func (PySem.W.fnOf "_law_change" "_law_change" (defArgs s__law_change) (defBody s__law_change) (defScope s__law_change) .none kV__law_change dc__law_change pm__law_change an__law_change cd__law_change ct__law_change), sl__law_change⟩)
    (d__law_change : PySem.W.codeIn K cd__law_change "_law_change" = true)
    (k__law_change : PySem.W.keepIn K (.ref f__law_change) = true)
    (a_law : PySem.W.nsIn K mainGlobals "law" = some (some (.ref f_law)))
    (l_law : K.lookup f_law = some ⟨oc_law, od_law, .func (PySem.W.fnOf "law" "law" (defArgs s_law) (defBody s_law) (defScope s_law) .none kV_law dc_law pm_law an_law cd_law ct_law), sl_law⟩)
    (d_law : PySem.W.codeIn K cd_law "law" = true)
    (k_law : PySem.W.keepIn K (.ref f_law) = true)
    : ∃ fd : FuncData, (∀ (s : Shared) (u : Value), BindsTo s fd ⟨[u], []⟩ [("_law_script", u)]) ∧ ∀ base : Heap, K.In base → base.Ns mainGlobals mg → FnOk prg w K mg base (L2.CX prg w) 14 fa fd ["_law_script"] (spLaw K) := by
  have e := hfa.symm.trans (PySem.W.mg_of X G a_law)
  have e2 : f_law = fa := by cases e; rfl
  subst e2
  let T : Txt K mg := {
    n_abs := PySem.W.mg_none_of X G z_abs
    n_bool := PySem.W.mg_none_of X G z_bool
    n_bytes := PySem.W.mg_none_of X G z_bytes
    n_classmethod := PySem.W.mg_none_of X G z_classmethod
    n_enumerate := PySem.W.mg_none_of X G z_enumerate
    n_int := PySem.W.mg_none_of X G z_int
    n_isinstance := PySem.W.mg_none_of X G z_isinstance
    n_iter := PySem.W.mg_none_of X G z_iter
    n_len := PySem.W.mg_none_of X G z_len
    n_list := PySem.W.mg_none_of X G z_list
    n_ord := PySem.W.mg_none_of X G z_ord
    n_range := PySem.W.mg_none_of X G z_range
    n_str := PySem.W.mg_none_of X G z_str
    n_tuple := PySem.W.mg_none_of X G z_tuple
    n_zip := PySem.W.mg_none_of X G z_zip
    k_SIGNS := ⟨_, PySem.W.mg_of X G a_SIGNS⟩
    k_GREATEST_HEIGHT := ⟨_, PySem.W.mg_of X G a_GREATEST_HEIGHT⟩
    k_MOST_SIGNS := ⟨_, PySem.W.mg_of X G a_MOST_SIGNS⟩
    k_MOST_RULES := ⟨_, PySem.W.mg_of X G a_MOST_RULES⟩
    c_BadSign := c_BadSign
    m_BadSign := PySem.W.mg_of X G a_BadSign
    o_BadSign := ⟨⟨nm_BadSign, q_BadSign, N_BadSign, bs_BadSign, bm_BadSign, sn_BadSign, sub_BadSign, ab_BadSign, col_BadSign, dd_BadSign, k0_BadSign, k1_BadSign, k2_BadSign, k3_BadSign, k5_BadSign, l_BadSign, ve_BadSign⟩, sa_BadSign, eb_BadSign, ty_BadSign, kc_BadSign⟩
    x_BadSign := ⟨⟨ga_BadSign, gg_BadSign, eb_BadSign, hd_BadSign⟩, nf_BadSign⟩
    f_BadSign_init := f_BadSign_init
    fd_BadSign_init := _
    i_BadSign := i_BadSign_init
    t_BadSign := t_BadSign_init
    F_BadSign_init := ⟨⟨_, _, _, _, _, _, _, _, _, _, _, _, _, _, _, _, _, _, _, _, rfl, l_BadSign_init, d_BadSign_init, e_BadSign_init, v_BadSign_init, g_BadSign_init, h_BadSign_init⟩, ops, PySem.W.mg_none_of X G z_super, si_BadSign, ev_BadSign, mc_BadSign, nf_BadSign, by rfl⟩
    b_BadSign_init := .all fun us hl => match us, hl with | [_, _], _ => rfl
    em_BadSign_BadSign := em_BadSign_BadSign
    c_BadHeight := c_BadHeight
    m_BadHeight := PySem.W.mg_of X G a_BadHeight
    o_BadHeight := ⟨⟨nm_BadHeight, q_BadHeight, N_BadHeight, bs_BadHeight, bm_BadHeight, sn_BadHeight, sub_BadHeight, ab_BadHeight, col_BadHeight, dd_BadHeight, k0_BadHeight, k1_BadHeight, k2_BadHeight, k3_BadHeight, k5_BadHeight, l_BadHeight, ve_BadHeight⟩, sa_BadHeight, eb_BadHeight, ty_BadHeight, kc_BadHeight⟩
    x_BadHeight := ⟨⟨ga_BadHeight, gg_BadHeight, eb_BadHeight, hd_BadHeight⟩, nf_BadHeight⟩
    f_BadHeight_init := f_BadHeight_init
    fd_BadHeight_init := _
    i_BadHeight := i_BadHeight_init
    t_BadHeight := t_BadHeight_init
    F_BadHeight_init := ⟨⟨_, _, _, _, _, _, _, _, _, _, _, _, _, _, _, _, _, _, _, _, rfl, l_BadHeight_init, d_BadHeight_init, e_BadHeight_init, v_BadHeight_init, g_BadHeight_init, h_BadHeight_init⟩, ops, PySem.W.mg_none_of X G z_super, si_BadHeight, ev_BadHeight, mc_BadHeight, nf_BadHeight, by rfl⟩
    b_BadHeight_init := .all fun us hl => match us, hl with | [_, _], _ => rfl
    em_BadHeight_BadSign := em_BadHeight_BadSign
    em_BadHeight_BadHeight := em_BadHeight_BadHeight
    c_BadLine := c_BadLine
    m_BadLine := PySem.W.mg_of X G a_BadLine
    o_BadLine := ⟨⟨nm_BadLine, q_BadLine, N_BadLine, bs_BadLine, bm_BadLine, sn_BadLine, sub_BadLine, ab_BadLine, col_BadLine, dd_BadLine, k0_BadLine, k1_BadLine, k2_BadLine, k3_BadLine, k5_BadLine, l_BadLine, ve_BadLine⟩, sa_BadLine, eb_BadLine, ty_BadLine, kc_BadLine⟩
    x_BadLine := ⟨⟨ga_BadLine, gg_BadLine, eb_BadLine, hd_BadLine⟩, nf_BadLine⟩
    f_BadLine_init := f_BadLine_init
    fd_BadLine_init := _
    i_BadLine := i_BadLine_init
    t_BadLine := t_BadLine_init
    F_BadLine_init := ⟨⟨_, _, _, _, _, _, _, _, _, _, _, _, _, _, _, _, _, _, _, _, rfl, l_BadLine_init, d_BadLine_init, e_BadLine_init, v_BadLine_init, g_BadLine_init, h_BadLine_init⟩, ops, PySem.W.mg_none_of X G z_super, si_BadLine, ev_BadLine, mc_BadLine, nf_BadLine, by rfl⟩
    b_BadLine_init := .all fun us hl => match us, hl with | [_, _], _ => rfl
    em_BadLine_BadSign := em_BadLine_BadSign
    em_BadLine_BadHeight := em_BadLine_BadHeight
    em_BadLine_BadLine := em_BadLine_BadLine
    c_Uneven := c_Uneven
    m_Uneven := PySem.W.mg_of X G a_Uneven
    o_Uneven := o_Uneven
    kp_Uneven := kp_Uneven
    r_Uneven := r_Uneven
    t_Uneven := t_Uneven
    em_Uneven_BadSign := em_Uneven_BadSign
    em_Uneven_BadHeight := em_Uneven_BadHeight
    em_Uneven_BadLine := em_Uneven_BadLine
    em_Uneven_Uneven := em_Uneven_Uneven
    c_BadRule := c_BadRule
    m_BadRule := PySem.W.mg_of X G a_BadRule
    o_BadRule := o_BadRule
    kp_BadRule := kp_BadRule
    r_BadRule := r_BadRule
    t_BadRule := t_BadRule
    em_BadRule_BadSign := em_BadRule_BadSign
    em_BadRule_BadHeight := em_BadRule_BadHeight
    em_BadRule_BadLine := em_BadRule_BadLine
    em_BadRule_Uneven := em_BadRule_Uneven
    em_BadRule_BadRule := em_BadRule_BadRule
    c_BookFull := c_BookFull
    m_BookFull := PySem.W.mg_of X G a_BookFull
    o_BookFull := o_BookFull
    kp_BookFull := kp_BookFull
    r_BookFull := r_BookFull
    t_BookFull := t_BookFull
    em_BookFull_BadSign := em_BookFull_BadSign
    em_BookFull_BadHeight := em_BookFull_BadHeight
    em_BookFull_BadLine := em_BookFull_BadLine
    em_BookFull_Uneven := em_BookFull_Uneven
    em_BookFull_BadRule := em_BookFull_BadRule
    em_BookFull_BookFull := em_BookFull_BookFull
    em_BadSign_BadHeight := em_BadSign_BadHeight
    em_BadSign_BadLine := em_BadSign_BadLine
    em_BadSign_Uneven := em_BadSign_Uneven
    em_BadSign_BadRule := em_BadSign_BadRule
    em_BadSign_BookFull := em_BadSign_BookFull
    em_BadHeight_BadLine := em_BadHeight_BadLine
    em_BadHeight_Uneven := em_BadHeight_Uneven
    em_BadHeight_BadRule := em_BadHeight_BadRule
    em_BadHeight_BookFull := em_BadHeight_BookFull
    em_BadLine_Uneven := em_BadLine_Uneven
    em_BadLine_BadRule := em_BadLine_BadRule
    em_BadLine_BookFull := em_BadLine_BookFull
    em_Uneven_BadRule := em_Uneven_BadRule
    em_Uneven_BookFull := em_Uneven_BookFull
    em_BadRule_BookFull := em_BadRule_BookFull
    c_Row := c_Row
    m_Row := PySem.W.mg_of X G a_Row
    cl_Row := ⟨pg_Row, hd_Row, po_Row, sa_Row⟩
    mk_Row := mk_Row
    kp_Row := kc_Row
    is_Row := ⟨⟨pg_Row, hd_Row, po_Row, sa_Row⟩, j0_Row, j1_Row, j2_Row, j3_Row, j4_Row⟩
    sf_Row := sf_Row
    nsq_Row := nsq_Row
    na_Row__pairs := na_Row__pairs
    c_Rule := c_Rule
    m_Rule := PySem.W.mg_of X G a_Rule
    cl_Rule := ⟨pg_Rule, hd_Rule, po_Rule, sa_Rule⟩
    mk_Rule := mk_Rule
    kp_Rule := kc_Rule
    is_Rule := ⟨⟨pg_Rule, hd_Rule, po_Rule, sa_Rule⟩, j0_Rule, j1_Rule, j2_Rule, j3_Rule, j4_Rule⟩
    sf_Rule := sf_Rule
    na_Rule_left := na_Rule_left
    na_Rule_right := na_Rule_right
    c_Book := c_Book
    m_Book := PySem.W.mg_of X G a_Book
    cl_Book := ⟨pg_Book, hd_Book, po_Book, sa_Book⟩
    mk_Book := mk_Book
    kp_Book := kc_Book
    is_Book := ⟨⟨pg_Book, hd_Book, po_Book, sa_Book⟩, j0_Book, j1_Book, j2_Book, j3_Book, j4_Book⟩
    sf_Book := sf_Book
    na_Book__rules := na_Book__rules
    f_check_text := f_check_text
    fd_check_text := PySem.W.fnOf "check_text" "check_text" (defArgs s_check_text) (defBody s_check_text) (defScope s_check_text) .none kV_check_text dc_check_text pm_check_text an_check_text cd_check_text ct_check_text
    F_check_text := fun_mk (st := s_check_text) l_check_text d_check_text k_check_text
    b_check_text := (fun_mk (st := s_check_text) l_check_text d_check_text k_check_text).binds (ps := P_check_text) fun _ _ _ _ _ _ us hl => match us, hl with | [_], _ => rfl
    m_check_text := PySem.W.mg_of X G a_check_text
    f_decoded := f_decoded
    fd_decoded := PySem.W.fnOf "decoded" "decoded" (defArgs s_decoded) (defBody s_decoded) (defScope s_decoded) .none kV_decoded dc_decoded pm_decoded an_decoded cd_decoded ct_decoded
    F_decoded := fun_mk (st := s_decoded) l_decoded d_decoded k_decoded
    b_decoded := (fun_mk (st := s_decoded) l_decoded d_decoded k_decoded).binds (ps := P_decoded) fun _ _ _ _ _ _ us hl => match us, hl with | [_], _ => rfl
    m_decoded := PySem.W.mg_of X G a_decoded
    f_check_height := f_check_height
    fd_check_height := PySem.W.fnOf "check_height" "check_height" (defArgs s_check_height) (defBody s_check_height) (defScope s_check_height) .none kV_check_height dc_check_height pm_check_height an_check_height cd_check_height ct_check_height
    F_check_height := fun_mk (st := s_check_height) l_check_height d_check_height k_check_height
    b_check_height := (fun_mk (st := s_check_height) l_check_height d_check_height k_check_height).binds (ps := P_check_height) fun _ _ _ _ _ _ us hl => match us, hl with | [_, _], _ => rfl
    m_check_height := PySem.W.mg_of X G a_check_height
    f_Row_init := f_Row_init
    fd_Row_init := PySem.W.fnOf "__init__" "Row.__init__" (defArgs s_Row_init) (defBody s_Row_init) (defScope s_Row_init) (.ref dT_Row_init) kV_Row_init dc_Row_init pm_Row_init an_Row_init cd_Row_init ct_Row_init
    D_Row_init := ⟨⟨_, _, _, _, _, _, _, _, _, _, rfl, l_Row_init, d_Row_init, .inr ⟨by simp, dT_Row_init, _, _, un_Row_init, rfl, u_Row_init, rfl, .cons ⟨_, rfl⟩ (.cons rfl (.nil))⟩, .inl rfl⟩, k_Row_init⟩
    kp_Row_init := k_Row_init
    M_Row_init := ⟨a_Row_init, i_Row_init, k_Row_init⟩
    f_Row_len := f_Row_len
    fd_Row_len := PySem.W.fnOf "__len__" "Row.__len__" (defArgs s_Row_len) (defBody s_Row_len) (defScope s_Row_len) .none kV_Row_len dc_Row_len pm_Row_len an_Row_len cd_Row_len ct_Row_len
    F_Row_len := fun_mk (st := s_Row_len) l_Row_len d_Row_len k_Row_len
    b_Row_len := (fun_mk (st := s_Row_len) l_Row_len d_Row_len k_Row_len).binds (ps := P_Row_len) fun _ _ _ _ _ _ us hl => match us, hl with | [_], _ => rfl
    M_Row_len := ⟨a_Row_len, i_Row_len, k_Row_len⟩
    f_Rule_init := f_Rule_init
    fd_Rule_init := PySem.W.fnOf "__init__" "Rule.__init__" (defArgs s_Rule_init) (defBody s_Rule_init) (defScope s_Rule_init) (.ref dT_Rule_init) kV_Rule_init dc_Rule_init pm_Rule_init an_Rule_init cd_Rule_init ct_Rule_init
    D_Rule_init := ⟨⟨_, _, _, _, _, _, _, _, _, _, rfl, l_Rule_init, d_Rule_init, .inr ⟨by simp, dT_Rule_init, _, _, un_Rule_init, rfl, u_Rule_init, rfl, .cons ⟨_, rfl⟩ (.nil)⟩, .inl rfl⟩, k_Rule_init⟩
    kp_Rule_init := k_Rule_init
    M_Rule_init := ⟨a_Rule_init, i_Rule_init, k_Rule_init⟩
    f_Rule_str := f_Rule_str
    fd_Rule_str := PySem.W.fnOf "__str__" "Rule.__str__" (defArgs s_Rule_str) (defBody s_Rule_str) (defScope s_Rule_str) .none kV_Rule_str dc_Rule_str pm_Rule_str an_Rule_str cd_Rule_str ct_Rule_str
    F_Rule_str := fun_mk (st := s_Rule_str) l_Rule_str d_Rule_str k_Rule_str
    b_Rule_str := (fun_mk (st := s_Rule_str) l_Rule_str d_Rule_str k_Rule_str).binds (ps := P_Rule_str) fun _ _ _ _ _ _ us hl => match us, hl with | [_], _ => rfl
    M_Rule_str := ⟨a_Rule_str, i_Rule_str, k_Rule_str⟩
    f_Book_init := f_Book_init
    fd_Book_init := PySem.W.fnOf "__init__" "Book.__init__" (defArgs s_Book_init) (defBody s_Book_init) (defScope s_Book_init) .none kV_Book_init dc_Book_init pm_Book_init an_Book_init cd_Book_init ct_Book_init
    F_Book_init := fun_mk (st := s_Book_init) l_Book_init d_Book_init k_Book_init
    M_Book_init := ⟨a_Book_init, i_Book_init, k_Book_init⟩
    f_Book_iter := f_Book_iter
    fd_Book_iter := PySem.W.fnOf "__iter__" "Book.__iter__" (defArgs s_Book_iter) (defBody s_Book_iter) (defScope s_Book_iter) .none kV_Book_iter dc_Book_iter pm_Book_iter an_Book_iter cd_Book_iter ct_Book_iter
    F_Book_iter := fun_mk (st := s_Book_iter) l_Book_iter d_Book_iter k_Book_iter
    b_Book_iter := (fun_mk (st := s_Book_iter) l_Book_iter d_Book_iter k_Book_iter).binds (ps := P_Book_iter) fun _ _ _ _ _ _ us hl => match us, hl with | [_], _ => rfl
    M_Book_iter := ⟨a_Book_iter, i_Book_iter, k_Book_iter⟩
    f_Book_written := f_Book_written
    fd_Book_written := PySem.W.fnOf "written" "Book.written" (defArgs s_Book_written) (defBody s_Book_written) (defScope s_Book_written) .none kV_Book_written dc_Book_written pm_Book_written an_Book_written cd_Book_written ct_Book_written
    F_Book_written := fun_mk (st := s_Book_written) l_Book_written d_Book_written k_Book_written
    b_Book_written := (fun_mk (st := s_Book_written) l_Book_written d_Book_written k_Book_written).binds (ps := P_Book_written) fun _ _ _ _ _ _ us hl => match us, hl with | [_], _ => rfl
    M_Book_written := ⟨a_Book_written, i_Book_written, k_Book_written⟩
    f_Book_data := f_Book_data
    fd_Book_data := PySem.W.fnOf "data" "Book.data" (defArgs s_Book_data) (defBody s_Book_data) (defScope s_Book_data) .none kV_Book_data dc_Book_data pm_Book_data an_Book_data cd_Book_data ct_Book_data
    F_Book_data := fun_mk (st := s_Book_data) l_Book_data d_Book_data k_Book_data
    b_Book_data := (fun_mk (st := s_Book_data) l_Book_data d_Book_data k_Book_data).binds (ps := P_Book_data) fun _ _ _ _ _ _ us hl => match us, hl with | [_], _ => rfl
    M_Book_data := ⟨a_Book_data, i_Book_data, k_Book_data⟩
    f__read_rule := f__read_rule
    fd__read_rule := PySem.W.fnOf "_read_rule" "_read_rule" (defArgs s__read_rule) (defBody s__read_rule) (defScope s__read_rule) .none kV__read_rule dc__read_rule pm__read_rule an__read_rule cd__read_rule ct__read_rule
    F__read_rule := fun_mk (st := s__read_rule) l__read_rule d__read_rule k__read_rule
    b__read_rule := (fun_mk (st := s__read_rule) l__read_rule d__read_rule k__read_rule).binds (ps := P__read_rule) fun _ _ _ _ _ _ us hl => match us, hl with | [_, _], _ => rfl
    m__read_rule := PySem.W.mg_of X G a__read_rule
    f_Book_read := f_Book_read
    fd_Book_read := PySem.W.fnOf "read" "Book.read" (defArgs s_Book_read) (defBody s_Book_read) (defScope s_Book_read) .none kV_Book_read dc_Book_read pm_Book_read an_Book_read cd_Book_read ct_Book_read
    F_Book_read := fun_mk (st := s_Book_read) l_Book_read d_Book_read k_Book_read
    b_Book_read := (fun_mk (st := s_Book_read) l_Book_read d_Book_read k_Book_read).binds (ps := P_Book_read) fun _ _ _ _ _ _ us hl => match us, hl with | [_, _], _ => rfl
    p_Book_read := p_Book_read
    cr_Book_read := ⟨cr1_Book_read, cr2_Book_read⟩
    M_Book_read := ⟨a_Book_read, ⟨_, pr_Book_read⟩, fi_Book_read⟩
    f__law_pool := f__law_pool
    fd__law_pool := PySem.W.fnOf "_law_pool" "_law_pool" (defArgs s__law_pool) (defBody s__law_pool) (defScope s__law_pool) .none kV__law_pool dc__law_pool pm__law_pool an__law_pool cd__law_pool ct__law_pool
    F__law_pool := fun_mk (st := s__law_pool) l__law_pool d__law_pool k__law_pool
    b__law_pool := (fun_mk (st := s__law_pool) l__law_pool d__law_pool k__law_pool).binds (ps := P__law_pool) fun _ _ _ _ _ _ us hl => match us, hl with | [_], _ => rfl
    m__law_pool := PySem.W.mg_of X G a__law_pool
    f__law_pick := f__law_pick
    fd__law_pick := PySem.W.fnOf "_law_pick" "_law_pick" (defArgs s__law_pick) (defBody s__law_pick) (defScope s__law_pick) .none kV__law_pick dc__law_pick pm__law_pick an__law_pick cd__law_pick ct__law_pick
    F__law_pick := fun_mk (st := s__law_pick) l__law_pick d__law_pick k__law_pick
    b__law_pick := (fun_mk (st := s__law_pick) l__law_pick d__law_pick k__law_pick).binds (ps := P__law_pick) fun _ _ _ _ _ _ us hl => match us, hl with | [_, _], _ => rfl
    m__law_pick := PySem.W.mg_of X G a__law_pick
    f__law_alphabet := f__law_alphabet
    fd__law_alphabet := PySem.W.fnOf "_law_alphabet" "_law_alphabet" (defArgs s__law_alphabet) (defBody s__law_alphabet) (defScope s__law_alphabet) .none kV__law_alphabet dc__law_alphabet pm__law_alphabet an__law_alphabet cd__law_alphabet ct__law_alphabet
    F__law_alphabet := fun_mk (st := s__law_alphabet) l__law_alphabet d__law_alphabet k__law_alphabet
    b__law_alphabet := (fun_mk (st := s__law_alphabet) l__law_alphabet d__law_alphabet k__law_alphabet).binds (ps := P__law_alphabet) fun _ _ _ _ _ _ us hl => match us, hl with | [_, _], _ => rfl
    m__law_alphabet := PySem.W.mg_of X G a__law_alphabet
    f__law_word_of := f__law_word_of
    fd__law_word_of := PySem.W.fnOf "_law_word_of" "_law_word_of" (defArgs s__law_word_of) (defBody s__law_word_of) (defScope s__law_word_of) .none kV__law_word_of dc__law_word_of pm__law_word_of an__law_word_of cd__law_word_of ct__law_word_of
    F__law_word_of := fun_mk (st := s__law_word_of) l__law_word_of d__law_word_of k__law_word_of
    b__law_word_of := (fun_mk (st := s__law_word_of) l__law_word_of d__law_word_of k__law_word_of).binds (ps := P__law_word_of) fun _ _ _ _ _ _ us hl => match us, hl with | [_, _, _, _], _ => rfl
    m__law_word_of := PySem.W.mg_of X G a__law_word_of
    f__law_is_int := f__law_is_int
    fd__law_is_int := PySem.W.fnOf "_law_is_int" "_law_is_int" (defArgs s__law_is_int) (defBody s__law_is_int) (defScope s__law_is_int) .none kV__law_is_int dc__law_is_int pm__law_is_int an__law_is_int cd__law_is_int ct__law_is_int
    F__law_is_int := fun_mk (st := s__law_is_int) l__law_is_int d__law_is_int k__law_is_int
    b__law_is_int := (fun_mk (st := s__law_is_int) l__law_is_int d__law_is_int k__law_is_int).binds (ps := P__law_is_int) fun _ _ _ _ _ _ us hl => match us, hl with | [_], _ => rfl
    m__law_is_int := PySem.W.mg_of X G a__law_is_int
    f__law_odd_sign := f__law_odd_sign
    fd__law_odd_sign := PySem.W.fnOf "_law_odd_sign" "_law_odd_sign" (defArgs s__law_odd_sign) (defBody s__law_odd_sign) (defScope s__law_odd_sign) .none kV__law_odd_sign dc__law_odd_sign pm__law_odd_sign an__law_odd_sign cd__law_odd_sign ct__law_odd_sign
    F__law_odd_sign := fun_mk (st := s__law_odd_sign) l__law_odd_sign d__law_odd_sign k__law_odd_sign
    b__law_odd_sign := (fun_mk (st := s__law_odd_sign) l__law_odd_sign d__law_odd_sign k__law_odd_sign).binds (ps := P__law_odd_sign) fun _ _ _ _ _ _ us hl => match us, hl with | [_], _ => rfl
    m__law_odd_sign := PySem.W.mg_of X G a__law_odd_sign
    f__law_first_odd := f__law_first_odd
    fd__law_first_odd := PySem.W.fnOf "_law_first_odd" "_law_first_odd" (defArgs s__law_first_odd) (defBody s__law_first_odd) (defScope s__law_first_odd) .none kV__law_first_odd dc__law_first_odd pm__law_first_odd an__law_first_odd cd__law_first_odd ct__law_first_odd
    F__law_first_odd := fun_mk (st := s__law_first_odd) l__law_first_odd d__law_first_odd k__law_first_odd
    b__law_first_odd := (fun_mk (st := s__law_first_odd) l__law_first_odd d__law_first_odd k__law_first_odd).binds (ps := P__law_first_odd) fun _ _ _ _ _ _ us hl => match us, hl with | [_], _ => rfl
    m__law_first_odd := PySem.W.mg_of X G a__law_first_odd
    f__law_is_text := f__law_is_text
    fd__law_is_text := PySem.W.fnOf "_law_is_text" "_law_is_text" (defArgs s__law_is_text) (defBody s__law_is_text) (defScope s__law_is_text) .none kV__law_is_text dc__law_is_text pm__law_is_text an__law_is_text cd__law_is_text ct__law_is_text
    F__law_is_text := fun_mk (st := s__law_is_text) l__law_is_text d__law_is_text k__law_is_text
    b__law_is_text := (fun_mk (st := s__law_is_text) l__law_is_text d__law_is_text k__law_is_text).binds (ps := P__law_is_text) fun _ _ _ _ _ _ us hl => match us, hl with | [_, _, _], _ => rfl
    m__law_is_text := PySem.W.mg_of X G a__law_is_text
    f__law_due_of := f__law_due_of
    fd__law_due_of := PySem.W.fnOf "_law_due_of" "_law_due_of" (defArgs s__law_due_of) (defBody s__law_due_of) (defScope s__law_due_of) .none kV__law_due_of dc__law_due_of pm__law_due_of an__law_due_of cd__law_due_of ct__law_due_of
    F__law_due_of := fun_mk (st := s__law_due_of) l__law_due_of d__law_due_of k__law_due_of
    b__law_due_of := (fun_mk (st := s__law_due_of) l__law_due_of d__law_due_of k__law_due_of).binds (ps := P__law_due_of) fun _ _ _ _ _ _ us hl => match us, hl with | [_], _ => rfl
    m__law_due_of := PySem.W.mg_of X G a__law_due_of
    f__law_try_make := f__law_try_make
    fd__law_try_make := PySem.W.fnOf "_law_try_make" "_law_try_make" (defArgs s__law_try_make) (defBody s__law_try_make) (defScope s__law_try_make) .none kV__law_try_make dc__law_try_make pm__law_try_make an__law_try_make cd__law_try_make ct__law_try_make
    F__law_try_make := fun_mk (st := s__law_try_make) l__law_try_make d__law_try_make k__law_try_make
    b__law_try_make := (fun_mk (st := s__law_try_make) l__law_try_make d__law_try_make k__law_try_make).binds (ps := P__law_try_make) fun _ _ _ _ _ _ us hl => match us, hl with | [_], _ => rfl
    m__law_try_make := PySem.W.mg_of X G a__law_try_make
    f__law_same := f__law_same
    fd__law_same := PySem.W.fnOf "_law_same" "_law_same" (defArgs s__law_same) (defBody s__law_same) (defScope s__law_same) .none kV__law_same dc__law_same pm__law_same an__law_same cd__law_same ct__law_same
    F__law_same := fun_mk (st := s__law_same) l__law_same d__law_same k__law_same
    b__law_same := (fun_mk (st := s__law_same) l__law_same d__law_same k__law_same).binds (ps := P__law_same) fun _ _ _ _ _ _ us hl => match us, hl with | [_, _, _], _ => rfl
    m__law_same := PySem.W.mg_of X G a__law_same
    f__law_first_bad := f__law_first_bad
    fd__law_first_bad := PySem.W.fnOf "_law_first_bad" "_law_first_bad" (defArgs s__law_first_bad) (defBody s__law_first_bad) (defScope s__law_first_bad) .none kV__law_first_bad dc__law_first_bad pm__law_first_bad an__law_first_bad cd__law_first_bad ct__law_first_bad
    F__law_first_bad := fun_mk (st := s__law_first_bad) l__law_first_bad d__law_first_bad k__law_first_bad
    b__law_first_bad := (fun_mk (st := s__law_first_bad) l__law_first_bad d__law_first_bad k__law_first_bad).binds (ps := P__law_first_bad) fun _ _ _ _ _ _ us hl => match us, hl with | [_], _ => rfl
    m__law_first_bad := PySem.W.mg_of X G a__law_first_bad
    f__law_change := f__law_change
    fd__law_change := PySem.W.fnOf "_law_change" "_law_change" (defArgs s__law_change) (defBody s__law_change) (defScope s__law_change) .none kV__law_change dc__law_change pm__law_change an__law_change cd__law_change ct__law_change
    F__law_change := fun_mk (st := s__law_change) l__law_change d__law_change k__law_change
    b__law_change := (fun_mk (st := s__law_change) l__law_change d__law_change k__law_change).binds (ps := P__law_change) fun _ _ _ _ _ _ us hl => match us, hl with | [_, _, _], _ => rfl
    m__law_change := PySem.W.mg_of X G a__law_change
    f_law := f_law
    fd_law := PySem.W.fnOf "law" "law" (defArgs s_law) (defBody s_law) (defScope s_law) .none kV_law dc_law pm_law an_law cd_law ct_law
    F_law := fun_mk (st := s_law) l_law d_law k_law
    b_law := (fun_mk (st := s_law) l_law d_law k_law).binds (ps := P_law) fun _ _ _ _ _ _ us hl => match us, hl with | [_], _ => rfl
    m_law := PySem.W.mg_of X G a_law
  }
  exact ⟨T.fd_law, fun s v => .of_eq rfl, fun base _ _ => ok_law T⟩
theorem walk {l : PySem.W.OpenLaw} {q : Program} {loose : List Str} {XP : (Str → Option Value) → Heap → Prop} {YP : World → Heap → Prop} {d : DefRec} {K : Params → PySem.W.Frag} (hn : l.most = some 63) (hdf : d.params.defaults = []) (hp : l.prog = prg)
    (hY : ∀ (w : World) (h : Heap), YP w h → (K w.params).In h)
    (F : ∀ (w : World) (mg : Str → Option Value) (fa : Addr) (h : Heap), (K w.params).In h → h.Ns mainGlobals mg → mg d.name = some (.ref fa) →
      ∃ fd : FuncData, (∀ (s : Shared) (u : Value), BindsTo s fd ⟨[u], []⟩ [("_law_script", u)]) ∧ ∀ base : Heap, (K w.params).In base → base.Ns mainGlobals mg → FnOk prg w (K w.params) mg base (L2.CX prg w) 14 fa fd ["_law_script"] (spLaw (K w.params))) :
    PySem.W.WalkO q loose XP YP l.row.toRowW d [] (fun f vs => PySem.call f vs) :=
  L2.walk_of (n := 63) (k := 14) (x := "_law_script") (CX := fun w => L2.CX prg w) (sp := fun w => spLaw (K w.params)) hn (by decide) hdf ⟨rfl, by decide, by decide⟩ hY (by rw [hp]; exact F) (fun _ _ a ns hl _ hS => ⟨a, ns, rfl, hS, hl, fun _ => rfl⟩) fun w H s e s' z => no_cx w H s e s' z
end Rz
open PySem PySem.W PyProof.Rows in
set_option maxRecDepth 100000 in
set_option maxHeartbeats 0 in
theorem PySem.Challenge.cw_risensigns_k10_book_read_holds : PySem.Challenge.rw_risensigns_k10_book_read.Holds := by
  w_on; o_law; k_head; (case hw => w_witness2)
  k_fill
  refine Rz.walk (l := PySem.Challenge.rw_risensigns_k10_book_read) rfl rfl rfl (fun w h Y => PySem.W.kIn_of Y) ?F
  case F =>
    intro w mg fa h KX G hmg
    refine' Rz.all_mk KX G hmg ?z_abs ?z_bool ?z_bytes ?z_classmethod ?z_enumerate ?z_int ?z_isinstance ?z_iter ?z_len ?z_list ?z_ord ?z_range ?z_str ?z_tuple ?z_zip ?a_SIGNS ?a_GREATEST_HEIGHT ?a_MOST_SIGNS ?a_MOST_RULES ?a_BadSign ?l_BadSign ?ve_BadSign ?sa_BadSign ?eb_BadSign ?ev_BadSign ?ty_BadSign ?kc_BadSign ?ga_BadSign ?gg_BadSign ?nf_BadSign ?hd_BadSign ?mc_BadSign ?si_BadSign ?i_BadSign_init ?t_BadSign_init ?l_BadSign_init ?d_BadSign_init ?e_BadSign_init ?v_BadSign_init ?g_BadSign_init ?h_BadSign_init ?em_BadSign_BadSign ?a_BadHeight ?l_BadHeight ?ve_BadHeight ?sa_BadHeight ?eb_BadHeight ?ev_BadHeight ?ty_BadHeight ?kc_BadHeight ?ga_BadHeight ?gg_BadHeight ?nf_BadHeight ?hd_BadHeight ?mc_BadHeight ?si_BadHeight ?i_BadHeight_init ?t_BadHeight_init ?l_BadHeight_init ?d_BadHeight_init ?e_BadHeight_init ?v_BadHeight_init ?g_BadHeight_init ?h_BadHeight_init ?em_BadHeight_BadSign ?em_BadHeight_BadHeight ?a_BadLine ?l_BadLine ?ve_BadLine ?sa_BadLine ?eb_BadLine ?ev_BadLine ?ty_BadLine ?kc_BadLine ?ga_BadLine ?gg_BadLine ?nf_BadLine ?hd_BadLine ?mc_BadLine ?si_BadLine ?i_BadLine_init ?t_BadLine_init ?l_BadLine_init ?d_BadLine_init ?e_BadLine_init ?v_BadLine_init ?g_BadLine_init ?h_BadLine_init ?em_BadLine_BadSign ?em_BadLine_BadHeight ?em_BadLine_BadLine ?a_Uneven ?o_Uneven ?kp_Uneven ?r_Uneven ?t_Uneven ?em_Uneven_BadSign ?em_Uneven_BadHeight ?em_Uneven_BadLine ?em_Uneven_Uneven ?a_BadRule ?o_BadRule ?kp_BadRule ?r_BadRule ?t_BadRule ?em_BadRule_BadSign ?em_BadRule_BadHeight ?em_BadRule_BadLine ?em_BadRule_Uneven ?em_BadRule_BadRule ?a_BookFull ?o_BookFull ?kp_BookFull ?r_BookFull ?t_BookFull ?em_BookFull_BadSign ?em_BookFull_BadHeight ?em_BookFull_BadLine ?em_BookFull_Uneven ?em_BookFull_BadRule ?em_BookFull_BookFull ?em_BadSign_BadHeight ?em_BadSign_BadLine ?em_BadSign_Uneven ?em_BadSign_BadRule ?em_BadSign_BookFull ?em_BadHeight_BadLine ?em_BadHeight_Uneven ?em_BadHeight_BadRule ?em_BadHeight_BookFull ?em_BadLine_Uneven ?em_BadLine_BadRule ?em_BadLine_BookFull ?em_Uneven_BadRule ?em_Uneven_BookFull ?em_BadRule_BookFull ?z_super ?ops ?a_Row ?pg_Row ?hd_Row ?po_Row ?sa_Row ?mk_Row ?kc_Row ?j0_Row ?j1_Row ?j2_Row ?j3_Row ?j4_Row ?sf_Row ?nsq_Row ?na_Row__pairs ?a_Rule ?pg_Rule ?hd_Rule ?po_Rule ?sa_Rule ?mk_Rule ?kc_Rule ?j0_Rule ?j1_Rule ?j2_Rule ?j3_Rule ?j4_Rule ?sf_Rule ?na_Rule_left ?na_Rule_right ?a_Book ?pg_Book ?hd_Book ?po_Book ?sa_Book ?mk_Book ?kc_Book ?j0_Book ?j1_Book ?j2_Book ?j3_Book ?j4_Book ?sf_Book ?na_Book__rules ?a_check_text ?l_check_text ?d_check_text ?k_check_text ?a_decoded ?l_decoded ?d_decoded ?k_decoded ?a_check_height ?l_check_height ?d_check_height ?k_check_height ?a_Row_init ?i_Row_init ?l_Row_init ?d_Row_init ?k_Row_init ?u_Row_init ?a_Row_len ?i_Row_len ?l_Row_len ?d_Row_len ?k_Row_len ?a_Rule_init ?i_Rule_init ?l_Rule_init ?d_Rule_init ?k_Rule_init ?u_Rule_init ?a_Rule_str ?i_Rule_str ?l_Rule_str ?d_Rule_str ?k_Rule_str ?a_Book_init ?i_Book_init ?l_Book_init ?d_Book_init ?k_Book_init ?a_Book_iter ?i_Book_iter ?l_Book_iter ?d_Book_iter ?k_Book_iter ?a_Book_written ?i_Book_written ?l_Book_written ?d_Book_written ?k_Book_written ?a_Book_data ?i_Book_data ?l_Book_data ?d_Book_data ?k_Book_data ?a__read_rule ?l__read_rule ?d__read_rule ?k__read_rule ?cr1_Book_read ?cr2_Book_read ?a_Book_read ?pr_Book_read ?fi_Book_read ?l_Book_read ?d_Book_read ?k_Book_read ?a__law_pool ?l__law_pool ?d__law_pool ?k__law_pool ?a__law_pick ?l__law_pick ?d__law_pick ?k__law_pick ?a__law_alphabet ?l__law_alphabet ?d__law_alphabet ?k__law_alphabet ?a__law_word_of ?l__law_word_of ?d__law_word_of ?k__law_word_of ?a__law_is_int ?l__law_is_int ?d__law_is_int ?k__law_is_int ?a__law_odd_sign ?l__law_odd_sign ?d__law_odd_sign ?k__law_odd_sign ?a__law_first_odd ?l__law_first_odd ?d__law_first_odd ?k__law_first_odd ?a__law_is_text ?l__law_is_text ?d__law_is_text ?k__law_is_text ?a__law_due_of ?l__law_due_of ?d__law_due_of ?k__law_due_of ?a__law_try_make ?l__law_try_make ?d__law_try_make ?k__law_try_make ?a__law_same ?l__law_same ?d__law_same ?k__law_same ?a__law_first_bad ?l__law_first_bad ?d__law_first_bad ?k__law_first_bad ?a__law_change ?l__law_change ?d__law_change ?k__law_change ?a_law ?l_law ?d_law ?k_law
    (case z_abs => k_is)
    (case z_bool => k_is)
    (case z_bytes => k_is)
    (case z_classmethod => k_is)
    (case z_enumerate => k_is)
    (case z_int => k_is)
    (case z_isinstance => k_is)
    (case z_iter => k_is)
    (case z_len => k_is)
    (case z_list => k_is)
    (case z_ord => k_is)
    (case z_range => k_is)
    (case z_str => k_is)
    (case z_tuple => k_is)
    (case z_zip => k_is)
    (case a_SIGNS => k_is)
    (case a_GREATEST_HEIGHT => k_is)
    (case a_MOST_SIGNS => k_is)
    (case a_MOST_RULES => k_is)
    (case a_BadSign => k_is)
    (case l_BadSign => k_is)
    (case ve_BadSign => first | rfl | kernel_rfl | decide +kernel)
    (case sa_BadSign => k_is)
    (case eb_BadSign => k_is)
    (case ev_BadSign => k_is)
    (case ty_BadSign => k_is)
    (case kc_BadSign => k_is)
    (case ga_BadSign => k_is)
    (case gg_BadSign => k_is)
    (case nf_BadSign => k_is)
    (case hd_BadSign => k_is)
    (case mc_BadSign => k_is)
    (case si_BadSign => first | rfl | kernel_rfl | decide +kernel)
    (case i_BadSign_init => k_is)
    (case t_BadSign_init => k_is)
    (case l_BadSign_init => k_is)
    (case d_BadSign_init => k_is)
    (case e_BadSign_init => k_is)
    (case v_BadSign_init => rfl)
    (case g_BadSign_init => first | rfl | kernel_rfl | decide +kernel)
    (case h_BadSign_init => k_is)
    (case em_BadSign_BadSign => first | rfl | kernel_rfl | decide +kernel)
    (case a_BadHeight => k_is)
    (case l_BadHeight => k_is)
    (case ve_BadHeight => first | rfl | kernel_rfl | decide +kernel)
    (case sa_BadHeight => k_is)
    (case eb_BadHeight => k_is)
    (case ev_BadHeight => k_is)
    (case ty_BadHeight => k_is)
    (case kc_BadHeight => k_is)
    (case ga_BadHeight => k_is)
    (case gg_BadHeight => k_is)
    (case nf_BadHeight => k_is)
    (case hd_BadHeight => k_is)
    (case mc_BadHeight => k_is)
    (case si_BadHeight => first | rfl | kernel_rfl | decide +kernel)
    (case i_BadHeight_init => k_is)
    (case t_BadHeight_init => k_is)
    (case l_BadHeight_init => k_is)
    (case d_BadHeight_init => k_is)
    (case e_BadHeight_init => k_is)
    (case v_BadHeight_init => rfl)
    (case g_BadHeight_init => first | rfl | kernel_rfl | decide +kernel)
    (case h_BadHeight_init => k_is)
    (case em_BadHeight_BadSign => first | rfl | kernel_rfl | decide +kernel)
    (case em_BadHeight_BadHeight => first | rfl | kernel_rfl | decide +kernel)
    (case a_BadLine => k_is)
    (case l_BadLine => k_is)
    (case ve_BadLine => first | rfl | kernel_rfl | decide +kernel)
    (case sa_BadLine => k_is)
    (case eb_BadLine => k_is)
    (case ev_BadLine => k_is)
    (case ty_BadLine => k_is)
    (case kc_BadLine => k_is)
    (case ga_BadLine => k_is)
    (case gg_BadLine => k_is)
    (case nf_BadLine => k_is)
    (case hd_BadLine => k_is)
    (case mc_BadLine => k_is)
    (case si_BadLine => first | rfl | kernel_rfl | decide +kernel)
    (case i_BadLine_init => k_is)
    (case t_BadLine_init => k_is)
    (case l_BadLine_init => k_is)
    (case d_BadLine_init => k_is)
    (case e_BadLine_init => k_is)
    (case v_BadLine_init => rfl)
    (case g_BadLine_init => first | rfl | kernel_rfl | decide +kernel)
    (case h_BadLine_init => k_is)
    (case em_BadLine_BadSign => first | rfl | kernel_rfl | decide +kernel)
    (case em_BadLine_BadHeight => first | rfl | kernel_rfl | decide +kernel)
    (case em_BadLine_BadLine => first | rfl | kernel_rfl | decide +kernel)
    (case a_Uneven => k_is)
    (case o_Uneven => k_exc)
    (case kp_Uneven => k_is)
    (case r_Uneven => k_is)
    (case t_Uneven => k_is)
    (case em_Uneven_BadSign => first | rfl | kernel_rfl | decide +kernel)
    (case em_Uneven_BadHeight => first | rfl | kernel_rfl | decide +kernel)
    (case em_Uneven_BadLine => first | rfl | kernel_rfl | decide +kernel)
    (case em_Uneven_Uneven => first | rfl | kernel_rfl | decide +kernel)
    (case a_BadRule => k_is)
    (case o_BadRule => k_exc)
    (case kp_BadRule => k_is)
    (case r_BadRule => k_is)
    (case t_BadRule => k_is)
    (case em_BadRule_BadSign => first | rfl | kernel_rfl | decide +kernel)
    (case em_BadRule_BadHeight => first | rfl | kernel_rfl | decide +kernel)
    (case em_BadRule_BadLine => first | rfl | kernel_rfl | decide +kernel)
    (case em_BadRule_Uneven => first | rfl | kernel_rfl | decide +kernel)
    (case em_BadRule_BadRule => first | rfl | kernel_rfl | decide +kernel)
    (case a_BookFull => k_is)
    (case o_BookFull => k_exc)
    (case kp_BookFull => k_is)
    (case r_BookFull => k_is)
    (case t_BookFull => k_is)
    (case em_BookFull_BadSign => first | rfl | kernel_rfl | decide +kernel)
    (case em_BookFull_BadHeight => first | rfl | kernel_rfl | decide +kernel)
    (case em_BookFull_BadLine => first | rfl | kernel_rfl | decide +kernel)
    (case em_BookFull_Uneven => first | rfl | kernel_rfl | decide +kernel)
    (case em_BookFull_BadRule => first | rfl | kernel_rfl | decide +kernel)
    (case em_BookFull_BookFull => first | rfl | kernel_rfl | decide +kernel)
    (case em_BadSign_BadHeight => first | rfl | kernel_rfl | decide +kernel)
    (case em_BadSign_BadLine => first | rfl | kernel_rfl | decide +kernel)
    (case em_BadSign_Uneven => first | rfl | kernel_rfl | decide +kernel)
    (case em_BadSign_BadRule => first | rfl | kernel_rfl | decide +kernel)
    (case em_BadSign_BookFull => first | rfl | kernel_rfl | decide +kernel)
    (case em_BadHeight_BadLine => first | rfl | kernel_rfl | decide +kernel)
    (case em_BadHeight_Uneven => first | rfl | kernel_rfl | decide +kernel)
    (case em_BadHeight_BadRule => first | rfl | kernel_rfl | decide +kernel)
    (case em_BadHeight_BookFull => first | rfl | kernel_rfl | decide +kernel)
    (case em_BadLine_Uneven => first | rfl | kernel_rfl | decide +kernel)
    (case em_BadLine_BadRule => first | rfl | kernel_rfl | decide +kernel)
    (case em_BadLine_BookFull => first | rfl | kernel_rfl | decide +kernel)
    (case em_Uneven_BadRule => first | rfl | kernel_rfl | decide +kernel)
    (case em_Uneven_BookFull => first | rfl | kernel_rfl | decide +kernel)
    (case em_BadRule_BookFull => first | rfl | kernel_rfl | decide +kernel)
    (case z_super => k_is)
    (case ops => k_is)
    (case a_Row => k_is)
    (case pg_Row => k_is)
    (case hd_Row => k_is)
    (case po_Row => k_is)
    (case sa_Row => k_is)
    (case mk_Row => k_is)
    (case kc_Row => k_is)
    (case j0_Row => k_is)
    (case j1_Row => k_is)
    (case j2_Row => k_is)
    (case j3_Row => k_is)
    (case j4_Row => first | rfl | kernel_rfl | decide +kernel)
    (case sf_Row => k_is)
    (case nsq_Row => k_is)
    (case na_Row__pairs => k_is)
    (case a_Rule => k_is)
    (case pg_Rule => k_is)
    (case hd_Rule => k_is)
    (case po_Rule => k_is)
    (case sa_Rule => k_is)
    (case mk_Rule => k_is)
    (case kc_Rule => k_is)
    (case j0_Rule => k_is)
    (case j1_Rule => k_is)
    (case j2_Rule => k_is)
    (case j3_Rule => k_is)
    (case j4_Rule => first | rfl | kernel_rfl | decide +kernel)
    (case sf_Rule => k_is)
    (case na_Rule_left => k_is)
    (case na_Rule_right => k_is)
    (case a_Book => k_is)
    (case pg_Book => k_is)
    (case hd_Book => k_is)
    (case po_Book => k_is)
    (case sa_Book => k_is)
    (case mk_Book => k_is)
    (case kc_Book => k_is)
    (case j0_Book => k_is)
    (case j1_Book => k_is)
    (case j2_Book => k_is)
    (case j3_Book => k_is)
    (case j4_Book => first | rfl | kernel_rfl | decide +kernel)
    (case sf_Book => k_is)
    (case na_Book__rules => k_is)
    (case a_check_text => k_is)
    (case l_check_text => k_is)
    (case d_check_text => k_is)
    (case k_check_text => k_is)
    (case a_decoded => k_is)
    (case l_decoded => k_is)
    (case d_decoded => k_is)
    (case k_decoded => k_is)
    (case a_check_height => k_is)
    (case l_check_height => k_is)
    (case d_check_height => k_is)
    (case k_check_height => k_is)
    (case a_Row_init => k_is)
    (case i_Row_init => k_is)
    (case l_Row_init => k_is)
    (case d_Row_init => k_is)
    (case k_Row_init => k_is)
    (case u_Row_init => k_is)
    (case a_Row_len => k_is)
    (case i_Row_len => k_is)
    (case l_Row_len => k_is)
    (case d_Row_len => k_is)
    (case k_Row_len => k_is)
    (case a_Rule_init => k_is)
    (case i_Rule_init => k_is)
    (case l_Rule_init => k_is)
    (case d_Rule_init => k_is)
    (case k_Rule_init => k_is)
    (case u_Rule_init => k_is)
    (case a_Rule_str => k_is)
    (case i_Rule_str => k_is)
    (case l_Rule_str => k_is)
    (case d_Rule_str => k_is)
    (case k_Rule_str => k_is)
    (case a_Book_init => k_is)
    (case i_Book_init => k_is)
    (case l_Book_init => k_is)
    (case d_Book_init => k_is)
    (case k_Book_init => k_is)
    (case a_Book_iter => k_is)
    (case i_Book_iter => k_is)
    (case l_Book_iter => k_is)
    (case d_Book_iter => k_is)
    (case k_Book_iter => k_is)
    (case a_Book_written => k_is)
    (case i_Book_written => k_is)
    (case l_Book_written => k_is)
    (case d_Book_written => k_is)
    (case k_Book_written => k_is)
    (case a_Book_data => k_is)
    (case i_Book_data => k_is)
    (case l_Book_data => k_is)
    (case d_Book_data => k_is)
    (case k_Book_data => k_is)
    (case a__read_rule => k_is)
    (case l__read_rule => k_is)
    (case d__read_rule => k_is)
    (case k__read_rule => k_is)
    (case cr1_Book_read => k_is)
    (case cr2_Book_read => k_is)
    (case a_Book_read => k_is)
    (case pr_Book_read => k_is)
    (case fi_Book_read => k_is)
    (case l_Book_read => k_is)
    (case d_Book_read => k_is)
    (case k_Book_read => k_is)
    (case a__law_pool => k_is)
    (case l__law_pool => k_is)
    (case d__law_pool => k_is)
    (case k__law_pool => k_is)
    (case a__law_pick => k_is)
    (case l__law_pick => k_is)
    (case d__law_pick => k_is)
    (case k__law_pick => k_is)
    (case a__law_alphabet => k_is)
    (case l__law_alphabet => k_is)
    (case d__law_alphabet => k_is)
    (case k__law_alphabet => k_is)
    (case a__law_word_of => k_is)
    (case l__law_word_of => k_is)
    (case d__law_word_of => k_is)
    (case k__law_word_of => k_is)
    (case a__law_is_int => k_is)
    (case l__law_is_int => k_is)
    (case d__law_is_int => k_is)
    (case k__law_is_int => k_is)
    (case a__law_odd_sign => k_is)
    (case l__law_odd_sign => k_is)
    (case d__law_odd_sign => k_is)
    (case k__law_odd_sign => k_is)
    (case a__law_first_odd => k_is)
    (case l__law_first_odd => k_is)
    (case d__law_first_odd => k_is)
    (case k__law_first_odd => k_is)
    (case a__law_is_text => k_is)
    (case l__law_is_text => k_is)
    (case d__law_is_text => k_is)
    (case k__law_is_text => k_is)
    (case a__law_due_of => k_is)
    (case l__law_due_of => k_is)
    (case d__law_due_of => k_is)
    (case k__law_due_of => k_is)
    (case a__law_try_make => k_is)
    (case l__law_try_make => k_is)
    (case d__law_try_make => k_is)
    (case k__law_try_make => k_is)
    (case a__law_same => k_is)
    (case l__law_same => k_is)
    (case d__law_same => k_is)
    (case k__law_same => k_is)
    (case a__law_first_bad => k_is)
    (case l__law_first_bad => k_is)
    (case d__law_first_bad => k_is)
    (case k__law_first_bad => k_is)
    (case a__law_change => k_is)
    (case l__law_change => k_is)
    (case d__law_change => k_is)
    (case k__law_change => k_is)
    (case a_law => k_is)
    (case l_law => k_is)
    (case d_law => k_is)
    (case k_law => k_is)
#print axioms PySem.Challenge.cw_risensigns_k10_book_read_holds
