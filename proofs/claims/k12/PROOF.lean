import PyProof.Rows.All
import Wide.All
import OpenK.AllK
import Wide.FinOn
import KE.KExcSuper
import KE.GoesEnum
import HandS.ForMost
import HandS.ForExc
import HandS.ExcInit
import HandS.ExcField
import HandS.TryMany
import HandS.Walk
import HandS.Defaults
import HandS.Property
import HandS.IsInst
import HandS.Codes
import HandS.FStr
import KE.KCallOwn
import KE.KDictZip
import KE.GoesZip
import KE.GoesMore
import HandS.ListItems
import HandS.Zip
import KE.KOpsOwn
import KE.KOwnIter
import HandS.IterNext
import HandS.SortKw
import PyProof.WalkInts
import HandS.More
import HandS.Star
import HandS.ClsMeth
import HandS.TupAny
import HandS.StrMore
import HandS.IterVal
import HandS.SetTxt0
import HandS.Set
import HandS.Strs
import HandS.SetFor
import PyProof.StrWalks
import KE.GoesEnumKw
import HandS.GenList
import HandS.Replace
import HandS.ReplaceList
import HandS.MakeKwOnly
import HandS.Bytes
import HandS.TupSets
import HandS.Dict
import HandS.DictTup
import HandS.DictComp
import HandS.SetKeys
import KE.KSortTupG
import HandS.RaiseMore
import KE.KSortKeySt
import HandS.MapJoin
import PyProof.ListStr
import KE.DataCmp
import HandS.Deep
import KE.KStateDown
import HandS.Head0
import HandS.Head1
import HandS.Head2
import HandS.HeadHook1
import HandS.HeadHook2
import HandS.HeadWalk
import PySem.Challenge.RW_risensigns_k12_book_sizes
set_option Elab.async false
set_option linter.all false
set_option maxRecDepth 100000
set_option maxHeartbeats 4000000
namespace Rz
open PySem PySem.Spec PyProof.Rows L2

theorem one_lookup {x k : Str} {a c : Addr} (h : List.lookup x [(k, a)] = some c) : c = a := by
  by_cases e : x = k
  · subst e
    simp [List.lookup] at h
    exact h.symm
  · have e2 : (x == k) = false := by simpa using e
    simp [List.lookup, e2] at h

/-- the context of an __init__ that knows its class -/
def cxS (P : Program) (w : World) (K : PySem.W.Frag) (mg : Str → Option Value) (base : Heap) (N : List Str) (qual : Str) (scope : Scope) (f : Addr) (cd : Value) (cc : Addr) (A : Around) (outer : List Env) (s : Shared) (H : Hp) : Cx where
  prog := P
  w := w
  K := K
  mg := mg
  base := base
  A := A.deeper (PySem.W.ksEnv qual scope s.heap.objs.size f cd cc)
  N := N
  s_0 := s
  H_0 := H
  env := PySem.W.ksEnv qual scope s.heap.objs.size f cd cc
  outer := outer
  stack := PySem.W.ksEnv qual scope s.heap.objs.size f cd cc :: outer
  ex := []
  calm := true
  fn := fun _ => false
  pn := []
  xe := fun _ _ => False

/-- what such an __init__ promises: the field is set -/
def spExI (C : Addr) (fld : Str) : Sp := fun vs H Q _ => ∃ (a : Addr) (n : Int), vs = [.ref a, .int n] ∧ n.natAbs.log2 < 1920 ∧ H a = some (exo a C none) ∧
  ∀ dx, H dx = none → dx ≠ a → Q .non (upd (upd H dx (exd dx [(fld, .int n)])) a (exo a C (some dx)))

/-- super().__init__(..) of an exception that has no dict yet -/
theorem call_mw {X : Cx} {pins : List (Addr × Obj)} {σ : L2.St} {H : Hp} {s : Shared} {a C u : Addr} {us : List Value} {Q : Value → Shared → Prop} {E : Value → Shared → Prop} {A : Around} (T : OexC X.K C) (I : Inv X pins σ H s) (e : H a = some (exo a C none)) (hl : us.length ≤ sizeLine)
    (hu : s.heap.get? u = some (PySem.W.kxs_mw "ValueError.__init__" a)) (h : ∀ s', Inv X pins σ H s' → Q .none s') : wpAny (model X.prog X.w) A (call (.ref u) us) Q E s := by
  obtain ⟨nm, q, N, bs, bm, sn, sub, ab, col, dd, k0, k1, k2, k3, k5, hC, hbm⟩ := T.cls
  obtain ⟨t1, ho⟩ := exo_at I.hok e
  have hC' := I.kIn _ _ hC
  have fin : ∀ (h' : Heap) (t2 : Addr), (∀ b o, b ≠ a → s.heap.get? b = some o → h'.get? b = some o) → h'.get? a = some ({ cls := .ref C, dict := none, data := .fields #[.ref t2, .none, .none, .none, .bool false, .none] } : Obj) → Inv X pins σ H { s with heap := h' } := fun h' t2 k hx => by
    have J := I.write (t' := s.toks) (x := a) (e := a) (o := exo a C none) (by rw [e]; exact True.intro) (.inl rfl) k ⟨_, hx⟩ (exo_ok hx)
    have eu : upd H a (exo a C none) = H := by
      funext b
      by_cases hb : b = a
      · rw [hb, upd_same, e]
      · rw [upd_ne hb]
    rw [eu] at J
    exact J
  obtain ⟨hp, g, d, t, os⟩ := s
  refine wpAny_call (codeAny_of_tree ?_)
  show wpAny _ A.in1 (callAny (.ref u) ⟨us, []⟩) _ _ _
  simp only [callAny]
  refine wpAny_bind (wpAny_load hu ?_)
  simp only [PySem.W.kxs_mw, show (Value.type "method-wrapper" == Value.type "method" || Value.type "method-wrapper" == Value.type "builtin_function_or_method" || Value.type "method-wrapper" == Value.type "method-wrapper") = true by decide, if_true]
  refine PySem.W.KFB.if_so (by decide) ?_
  refine wpAny_bind (PySem.W.check_bound_init F.excBase_ValueError.toExcCallFacts hC' ho rfl ?_)
  refine wpAny_bind (wpAny_pure (wpAny_pure ?_))
  refine ⟨plainId_quiet F.excBase_ValueError.init.plain _, codeAny_builtin F.excBase_ValueError.initEntry ?_⟩
  rw [Around.under_plainId F.excBase_ValueError.init.plain _]
  exact PySem.W.exc_init_tree (cls := .ref C) (t0 := t1) (dv := none) (c2 := .none) (c3 := .none) (b4 := .bool false) ho hl fun h' k hx _ => h _ (fin h' _ k hx)

section
variable {P : Program} {w : World} {K : PySem.W.Frag} {mg : Str → Option Value} {base : Heap}
theorem exsup_ok {CX : CXT} {k : Nat} {C f cc cda : Addr} {qual fld : Str} {params : Arguments} {body : List Stmt} {scope : Scope} {oc kV doc pm ct ccl cl : Value} {od an cdd cld : Option Addr} {osl ccs csl : Array (Option Value)} {vs5 : Array Value} {file : Str} {tf : Tok} {ar : Arg}
    {p0 p1 p2 p3 p4 q1 q2 q3 q4 : Pos} {e : Expr}
    (T : OexC K C)
    (lk : K.lookup f = some ⟨oc, od, .func (PySem.W.ksFn "__init__" qual params body scope .none kV doc pm an (.ref cda) ct cc), osl⟩) (hcd : PySem.W.codeIn K (.ref cda) qual = true)
    (hcode : K.lookup cda = some ⟨ccl, cdd, .fields vs5, ccs⟩) (hvs : vs5[2]? = some (.str file tf)) (hfile : ((P.main.file : Str) == file) = true)
    (hcell : K.lookup cc = some ⟨cl, cld, .cell (some (.ref C)), csl⟩)
    (hops : PySem.W.nsIn K cStatics "thirdparty.any" = some none) (hsuper : mg "super" = none)
    (hsin : PySem.W.ks_superIn K C C "__init__" = some (some (.builtin "ValueError.__init__")))
    (hB : PySem.W.subIn K (.ref C) (.type "ValueError") = some true) (hCC : PySem.W.mroIn K C (.ref C) = some true) (noN : PySem.W.findIn K (.ref C) fld = some none)
    (htop : (P.main.scope.names.lookup ("super" : Str)).isSome = false)
    (hbody : body = [.Expr (.Call (.Attribute (.Call (.Name "super" p0) [] [] p1) "__init__" p2) [e] [] p3) p4, .Assign [.Attribute (.Name "self" q1) fld q2] (.Name fld q3) q4])
    (hp : (params.posonlyargs ++ params.args).head? = some ar) (har : ar.arg = "self")
    (hks : scope.names.lookup ("super" : Str) = some .globalImplicit) (hkc : scope.names.lookup ("__class__" : Str) = some .free) (hka : scope.names.lookup ("self" : Str) = some .local) (hkf : scope.names.lookup fld = some .local)
    (hkind : scope.kind = .function) (hco : scope.isCoroutine = false) (hgen : scope.isGenerator = false) (hnc : ∀ x ∈ scope.names, x.2 ≠ .cell) (honly : ∀ x, scope.names.lookup x = some .free → x = "__class__") (hnd : fld ≠ "self")
    (hdb : (fld == ("__debug__" : Str)) = false) (hdc : (fld == ("__classdict__" : Str)) = false)
    (hmsg : ∀ X : Cx, X.N = [("self" : Str), fld] → X.env.scope = scope → ∃ t, PE X e t ∧ ∀ (σ : L2.St) (n : Int) (H : Hp) (Q : VK), σ[1]? = some (some (.int n)) → n.natAbs.log2 < 1920 → (∀ z : Str, Q (.str z) H) → t σ H Q)
    (hst : ∀ (L : Addr), starEach [e] (PySem.W.ksEnv qual scope L f (.ref cda) cc) = (false, eval e (PySem.W.ksEnv qual scope L f (.ref cda) cc)) :: starEach [] (PySem.W.ksEnv qual scope L f (.ref cda) cc))
    {pl : Sem Bool} (hms : ∀ (L : Addr), eval (.Call (.Attribute (.Call (.Name "super" p0) [] [] p1) "__init__" p2) [e] [] p3) (PySem.W.ksEnv qual scope L f (.ref cda) cc) = (do
      let ov ← attributeBase (.Call (.Name "super" p0) [] [] p1) "__init__" (PySem.W.ksEnv qual scope L f (.ref cda) cc) (eval (.Call (.Name "super" p0) [] [] p1) (PySem.W.ksEnv qual scope L f (.ref cda) cc))
      standAt p2.atName
      let (g, first) ← holding [ov] (getMethod ov "__init__" pl)
      callWith p3 g first (backTo p3 (starEach [e] (PySem.W.ksEnv qual scope L f (.ref cda) cc))) [])) :
    FnOk P w K mg base CX (k + 1) f (PySem.W.ksFn "__init__" qual params body scope .none kV doc pm an (.ref cda) ct cc) ["self", fld] (spExI C fld) := by
  refine ⟨fun vs H Q E h => ?_, fun A outer s H args us vs Q E hr e0 hb r hsp => ?_⟩
  · obtain ⟨a, n, rfl, _⟩ := h
    rfl
  obtain ⟨a, n, rfl, hn, ha, hk⟩ := hsp
  obtain ⟨u0, u1, rfl, r0, r1⟩ := vals2 r
  obtain rfl : u0 = Value.ref a := r0
  obtain ⟨tk, rfl⟩ := r1
  have KX : K.In s.heap := e0.mod.kin.keeps fun b o q => (e0.bs b o q).1
  have lim : s.heap.NoLimit := e0.mod.nolimit.keeps fun b o q => (e0.bs b o q).1
  refine PySem.ks_codeAny_call_defAt (body := body) (binds := (["self", fld] : List Str).zip [Value.ref a, Value.int n tk]) hr.depth (KX _ _ lk) rfl lim (PySem.W.codeRec_of KX hcd) rfl hb hnc (fun x hx => ?_) (fun h1 hns hk1 => ?_) hco hgen hkind
  · have hx' : x = (("self" : Str), Value.ref a) ∨ x = (fld, Value.int n tk) := by simpa using hx
    rcases hx' with rfl | rfl
    · exact hka
    · exact hkf
  have hne : (("self" : Str) == fld) = false := by simpa using Ne.symm hnd
  have nocell : ∀ x, scope.names.lookup x ≠ some .cell := fun x hx => hnc _ (PySem.mem_of_lookup hx) rfl
  have cells : ∀ {x c}, (cxS P w K mg base ["self", fld] qual scope f (.ref cda) cc A outer s H).env.cells.lookup x = some c → c = cc := fun h => one_lookup h
  have freeCC : H cc = none := (e0.bs _ _ (e0.mod.kin _ _ hcell)).2
  have I : Inv (cxS P w K mg base ["self", fld] qual scope f (.ref cda) cc A outer s H) [] [some (.ref a), some (.int n)] H { s with heap := h1, toks := s.toks + 2 } := by
    have noA : ∀ b : Addr, b ∉ (cxS P w K mg base ["self", fld] qual scope f (.ref cda) cc A outer s H).ex := fun b z => absurd (show b ∈ ([] : List Addr) from z) (by simp)
    refine ⟨⟨e0.mod, hkind, rfl, rfl, Nat.le_refl _, fun y z c h1 h2 => ?_, fun y hy => ?_, fun y c z _ => ?_, fun _ => hr.hd, Around.frames_deeper e0.frames, .inr ⟨rfl, rfl⟩, fun b z => absurd z (noA b), e0.bs, e0.bsz, fun b _ _ => noA b, fun b z => absurd z (noA b), e0.funs, e0.frf⟩,
      rfl, e0.bare, Un.kept hk1, ⟨_, hns, fun i y v h1 h2 h3 => ?_⟩, fun y c h => ?_, e0.hok.fresh (Nat.le_refl _), fun y c h => ?_, fun p hp => absurd (show p ∈ ([] : List (Addr × Obj)) from hp) (by simp), e0.hok.kept hk1, rfl⟩
    · have k1 : ∀ {y c}, List.lookup y [(("__class__" : Str), cc)] = some c → y = "__class__" := fun {y c} q => by
        by_cases z : y = "__class__"
        · exact z
        · have e2 : (y == ("__class__" : Str)) = false := by simpa using z
          simp [List.lookup, e2] at q
      rw [k1 h1, k1 h2]
    · rcases hy with hy | hy
      · exact absurd hy (nocell y)
      · have e1 := honly y hy
        subst e1
        exact ⟨cc, rfl⟩
    · exact Bool.noConfusion (show false = true from z)
    · refine match i, h1, h2 with
        | 0, h1, h2 => ?_
        | 1, h1, h2 => ?_
        | i + 2, h1, h2 => ?_
      · have e1 : ("self" : Str) = y := Option.some.inj h1
        have e2 : V.ref a = v := Option.some.inj (Option.some.inj h2)
        subst e1
        subst e2
        exact ⟨.ref a, rfl, .inl ⟨hka, by simp [List.lookup, hne]⟩⟩
      · have e1 : fld = y := Option.some.inj h1
        have e2 : V.int n = v := Option.some.inj (Option.some.inj h2)
        subst e1
        subst e2
        exact ⟨.int n tk, ⟨tk, rfl⟩, .inl ⟨hkf, by simp [List.lookup]⟩⟩
      · exact absurd h1 (by simp [cxS])
    · rw [cells h]
      exact ⟨_, _, hk1 _ _ (KX _ _ hcell), rfl⟩
    · rw [cells h]
      exact freeCC
  subst hbody
  have KX1 : K.In h1 := KX.keeps hk1
  obtain ⟨nm, q, N, bs, bm, sn, sub, ab, col, dd, k0, k1, k2, k3, k5, hC, hbm⟩ := id T.cls
  have hcl : PySem.W.clsIn K C = some { name := nm, bases := bs, mro := .ref C :: bm, ns := N, qualname := q, hasDict := true, slotNames := sn, subclasses := sub, abstract := ab, collection := col, hasDel := false } := by unfold PySem.W.clsIn; rw [hC] <;> rfl
  obtain ⟨t1, ho⟩ := exo_at I.hok ha
  obtain ⟨mb, b1, b2⟩ := I.mod.blt
  obtain ⟨hh, g, d, t0, os⟩ := s
  have hac : a ≠ C := fun z => by
    have z1 := KX1 _ _ hC
    rw [← z] at z1
    have z2 := z1.symm.trans ho
    cases z2
  refine PySem.ks_wpAt_execs_cons (PySem.ks_wpAt_Expr_any (PySem.ks_wpAt_MethodCall (pl := pl) ?_ (hms _)) I.quiet rfl)
  refine PySem.ks_wpAt_super_base hks hkc (by decide) rfl (KX1 _ _ lk) rfl hp rfl (KX1 _ _ hcode) rfl hvs hfile htop ?_
  refine PySem.W.ks_loadName_global hkind hks (Calls.loadGlobal_builtin (I.mod.glob.keeps I.bk) hsuper (b1.keeps I.bk) ((b2 "super" (by decide)).trans (by decide +kernel : bootBuiltins "super" = some (.type "super"))) ⟨rfl, ?_⟩)
  refine wpAny_loadName_free hkind hkc rfl ⟨_, KX1 _ _ hcell, rfl⟩ ?_
  rw [har]
  refine wpAny_loadName_local (v := .ref a) hkind hka hns (by simp [List.lookup, hne]) ?_
  refine PySem.ks_wpAny_isType_cls (KX1 _ _ hC) rfl ⟨rfl, ?_⟩
  refine PySem.ks_wpAny_call_super (KX1 _ _ hC) rfl ho rfl (fun c z => by cases z) (PySem.W.looks_mroIn KX1 hCC) (fun h2 e2 kk2 => ?_)
  have I2 := I.kept (t' := t0 + 2) kk2
  have KX2 := KX1.keeps kk2
  have ho2 := kk2 _ _ ho
  have hI : PySem.W.Looks (model P w) h2 (isInstance (.ref a) (.type "ValueError")) true :=
    (PySem.W.InstAt.type (M := model P w) (ox := { cls := .ref C, data := .fields #[.ref t1, .none, .none, .none, .bool false, .none] }) (od := none) ⟨ho2, rfl, rfl, trivial⟩).andThen (PySem.W.looks_subIn KX2 hB)
  have hsin2 : PySem.W.alongIn K "__init__" (((Value.ref C :: bm).dropWhile (· != .ref C)).drop 1) = some (some (.builtin "ValueError.__init__")) := by
    unfold PySem.W.ks_superIn at hsin
    rw [hcl] at hsin
    exact hsin
  refine PySem.W.kxs_getMethod PySem.W.kxs_ValueError e2 (PySem.W.looks_opaque KX2 hops) (l₀ := .ref C :: bm) ?_ rfl KX2 hsin2 hI hac (by decide) ?_
  · exact fun A Q E s k q => wpAny_bind ((PySem.W.looks_clsIn KX2 hcl) A _ E s k (wpAny_pure q))
  have kk3 : ∀ b o, h2.get? b = some o → (h2.push (PySem.W.kxs_mw "ValueError.__init__" a)).get? b = some o := fun b o q => Heap.get?_push_of_some _ q
  have I3 := I2.kept (t' := t0 + 2 + 1) kk3
  have hu : (h2.push (PySem.W.kxs_mw "ValueError.__init__" a)).get? h2.objs.size = some (PySem.W.kxs_mw "ValueError.__init__" a) := Heap.get?_push_at rfl rfl
  have I4 := I3.pins_of (pins' := [(h2.objs.size, PySem.W.kxs_mw "ValueError.__init__" a)]) (fun p hp => by
    obtain rfl : p = (h2.objs.size, PySem.W.kxs_mw "ValueError.__init__" a) := by simpa using hp
    refine ⟨hu, I2.hok.fresh (Nat.le_refl _), fun z => ?_, I2.nofs (Nat.le_refl _), fun v z => by cases z⟩
    have z1 := I2.lt
    rw [← z] at z1
    exact Nat.lt_irrefl _ z1)
  obtain ⟨te, pe, rd⟩ := hmsg (cxS P w K mg base ["self", fld] qual scope f (.ref cda) cc A outer ⟨hh, g, d, t0, os⟩ H) rfl rfl
  have pa := pa_cons pe pa_nil (hst _)
  have e3 : backTo p3 (starEach [e] (PySem.W.ksEnv qual scope hh.objs.size f (.ref cda) cc)) = (false, eval e (PySem.W.ksEnv qual scope hh.objs.size f (.ref cda) cc)) :: backTo p3 (starEach [] (PySem.W.ksEnv qual scope hh.objs.size f (.ref cda) cc)) := by rw [hst]; rfl
  refine PySem.W.kxs_callWith (i := "ValueError.__init__") (x := a) (by show (backTo p3 (starEach [e] (PySem.W.ksEnv qual scope hh.objs.size f (.ref cda) cc))).any (·.1) = false; rw [e3]; rfl) ?_
  show wpAny _ _ (evalArgs _ true (backTo p3 (starEach [e] (PySem.W.ksEnv qual scope hh.objs.size f (.ref cda) cc))) []) _ _ _
  rw [e3]
  refine Calls.evalArgs_plain ?_
  rw [← e3]
  refine wpAny_mono (pa.run p3 _ _ _ _ (fun vs H' => (∃ z, vs = [V.str z]) ∧ H' = H) I4 (rd _ n H _ rfl hn fun z => ⟨⟨z, rfl⟩, rfl⟩)) (fun us s5 hu5 => ?_) fun _ _ z => z.elim
  obtain ⟨vs, H', I5, r5, ⟨z, rfl⟩, rfl⟩ := hu5
  have hu6 := (I5.pin (h2.objs.size, PySem.W.kxs_mw "ValueError.__init__" a) (by simp [cxS])).1
  refine ⟨hu6, ?_⟩
  obtain ⟨uz, rfl, _⟩ := vals1 r5
  refine call_mw T I5 ha (by show 1 ≤ sizeLine; decide) hu6 fun s6 I6 => ?_
  show PySem.wpAt _ _ _ (execs _ _) _ _ _
  refine wpAt_of_wpAny ?_
  have J6 := I6.pins_of (pins' := []) (fun p hp => by cases hp)
  have ps : PSs (cxS P w K mg base ["self", fld] qual scope f (.ref cda) cc A outer ⟨hh, g, d, t0, os⟩ H') [.Assign [.Attribute (.Name "self" q1) fld q2] (.Name fld q3) q4] (tOst K fld (tVar 0) (tVar 1)) :=
    pss_one (ps_ost (pe_var rfl (.inl hka)) (pe_var rfl (.inl hkf) hdb hdc) rfl)
  refine wpAny_mono (ps.run [] s6 _ H' { nx := fun _ H2 => Q .non H2, rt := fun _ _ => False } J6 ⟨_, rfl, _, rfl, a, C, rfl, T, noN, .inl ⟨ha, hk⟩⟩) (fun fl s7 hs => ?_) fun _ _ z => z.elim
  cases fl with
  | next =>
    obtain ⟨σ7, H7, J, q7⟩ := hs
    exact ⟨.non, H7, J.os, J.bare, J.base, J.hok, rfl, q7⟩
  | ret u =>
    obtain ⟨_, _, _, _, _, q7⟩ := hs
    exact q7.elim
  | brk =>
    obtain ⟨_, _, _, q7⟩ := hs
    exact q7.elim
  | cont =>
    obtain ⟨_, _, _, q7⟩ := hs
    exact q7.elim
end
/-- what stands of such an __init__ behind the top -/
structure ExInit (P : Program) (K : PySem.W.Frag) (mg : Str → Option Value) (C f : Addr) (fd : FuncData) (fld : Str) (st : Stmt) : Prop where
  ex : ∃ (qual : Str) (oc kV doc pm ct ccl cl : Value) (od an cdd cld : Option Addr) (osl ccs csl : Array (Option Value)) (vs5 : Array Value) (file : Str) (tf : Tok) (cc cda : Addr),
    fd = PySem.W.ksFn "__init__" qual (defArgs st) (defBody st) (defScope st) .none kV doc pm an (.ref cda) ct cc ∧ K.lookup f = some ⟨oc, od, .func fd, osl⟩ ∧ PySem.W.codeIn K (.ref cda) qual = true ∧
    K.lookup cda = some ⟨ccl, cdd, .fields vs5, ccs⟩ ∧ vs5[2]? = some (.str file tf) ∧ ((P.main.file : Str) == file) = true ∧ K.lookup cc = some ⟨cl, cld, .cell (some (.ref C)), csl⟩
  ops : PySem.W.nsIn K cStatics "thirdparty.any" = some none
  nsup : mg "super" = none
  sin : PySem.W.ks_superIn K C C "__init__" = some (some (.builtin "ValueError.__init__"))
  sub : PySem.W.subIn K (.ref C) (.type "ValueError") = some true
  mro : PySem.W.mroIn K C (.ref C) = some true
  noN : PySem.W.findIn K (.ref C) fld = some none
  top : (P.main.scope.names.lookup ("super" : Str)).isSome = false
/-- .. and what its instances are read by -/
structure ExF (K : PySem.W.Frag) (C : Addr) (fld : Str) : Prop where
  xf : XfC K C
  noN : PySem.W.findIn K (.ref C) fld = some none
end Rz

namespace Rz
open PySem PySem.Spec PyProof.Rows L2
theorem str_int_len {n : Int} (h : n.natAbs.log2 < 1920) : (toString n : Str).length ≤ 1921 := PyProof.Rows.int_text_len_1921 h
theorem exinit_ok {P : Program} {w : World} {K : PySem.W.Frag} {mg : Str → Option Value} {base : Heap} {CX : CXT} {C f : Addr} {fd : FuncData} {fld : Str} {st : Stmt} {ar : Arg} {p0 p1 p2 p3 p4 q1 q2 q3 q4 : Pos} {e : Expr}
    (T : OexC K C) (I : ExInit P K mg C f fd fld st)
    (hbody : defBody st = [.Expr (.Call (.Attribute (.Call (.Name "super" p0) [] [] p1) "__init__" p2) [e] [] p3) p4, .Assign [.Attribute (.Name "self" q1) fld q2] (.Name fld q3) q4])
    (hp : ((defArgs st).posonlyargs ++ (defArgs st).args).head? = some ar) (har : ar.arg = "self")
    (hks : (defScope st).names.lookup ("super" : Str) = some .globalImplicit) (hkc : (defScope st).names.lookup ("__class__" : Str) = some .free) (hka : (defScope st).names.lookup ("self" : Str) = some .local) (hkf : (defScope st).names.lookup fld = some .local)
    (hkind : (defScope st).kind = .function) (hco : (defScope st).isCoroutine = false) (hgen : (defScope st).isGenerator = false)
    (hnc : ((defScope st).names.all fun x => decide (x.2 ≠ .cell)) = true) (hfr : ((defScope st).names.all fun x => decide (x.2 = .free → x.1 = "__class__")) = true) (hnd : fld ≠ "self")
    (hdb : (fld == ("__debug__" : Str)) = false) (hdc : (fld == ("__classdict__" : Str)) = false)
    (hmsg : ∀ X : Cx, X.N = [("self" : Str), fld] → X.env.scope = defScope st → ∃ t, PE X e t ∧ ∀ (σ : L2.St) (n : Int) (H : Hp) (Q : VK), σ[1]? = some (some (.int n)) → n.natAbs.log2 < 1920 → (∀ z : Str, Q (.str z) H) → t σ H Q)
    (hst : ∀ (qual : Str) (L cda cc : Addr), starEach [e] (PySem.W.ksEnv qual (defScope st) L f (.ref cda) cc) = (false, eval e (PySem.W.ksEnv qual (defScope st) L f (.ref cda) cc)) :: starEach [] (PySem.W.ksEnv qual (defScope st) L f (.ref cda) cc))
    {pl : Sem Bool} (hms : ∀ (qual : Str) (L cda cc : Addr), eval (.Call (.Attribute (.Call (.Name "super" p0) [] [] p1) "__init__" p2) [e] [] p3) (PySem.W.ksEnv qual (defScope st) L f (.ref cda) cc) = (do
      let ov ← attributeBase (.Call (.Name "super" p0) [] [] p1) "__init__" (PySem.W.ksEnv qual (defScope st) L f (.ref cda) cc) (eval (.Call (.Name "super" p0) [] [] p1) (PySem.W.ksEnv qual (defScope st) L f (.ref cda) cc))
      standAt p2.atName
      let (g, first) ← holding [ov] (getMethod ov "__init__" pl)
      callWith p3 g first (backTo p3 (starEach [e] (PySem.W.ksEnv qual (defScope st) L f (.ref cda) cc))) [])) :
    FnOk P w K mg base CX 1 f fd ["self", fld] (spExI C fld) := by
  obtain ⟨qual, oc, kV, doc, pm, ct, ccl, cl, od, an, cdd, cld, osl, ccs, csl, vs5, file, tf, cc, cda, rfl, lk, hcd, hcode, hvs, hfile, hcell⟩ := I.ex
  refine exsup_ok (k := 0) T lk hcd hcode hvs hfile hcell I.ops I.nsup I.sin I.sub I.mro I.noN I.top hbody hp har hks hkc hka hkf hkind hco hgen (fun x hx => ?_) (fun x hx => ?_) hnd hdb hdc hmsg (fun L => hst qual L cda cc) (fun L => hms qual L cda cc)
  · exact of_decide_eq_true (List.all_eq_true.mp hnc x hx)
  · exact of_decide_eq_true (List.all_eq_true.mp hfr _ (PySem.mem_of_lookup hx)) rfl
theorem msg_ok2 {sc : Scope} {fld c : Str} {p1 p2 p3 p4 : Pos} {j : Nat} (hv : sc.names.lookup fld = some .local) (hd : (fld == ("__debug__" : Str)) = false) (hdc : (fld == ("__classdict__" : Str)) = false) (hc : c.length ≤ 1000) (X : Cx) (hN : X.N = [("self" : Str), fld]) (hs : X.env.scope = sc) :
    ∃ t, PE X (.JoinedStr [.Constant (.str c) j p1, .FormattedValue (.Name fld p2) (-1) none p3] p4) t ∧ ∀ (σ : L2.St) (n : Int) (H : Hp) (Q : VK), σ[1]? = some (some (.int n)) → n.natAbs.log2 < 1920 → (∀ z : Str, Q (.str z) H) → t σ H Q := by
  refine ⟨_, pe_joined (.cons pe_str (.cons (pe_fmt (pe_var (i := 1) (by rw [hN]; rfl) (.inl (by rw [hs]; exact hv)) hd hdc)) .nil)), fun σ n H Q h1 hn hq => ?_⟩
  have l1 := str_int_len hn
  refine ⟨c, rfl, ?_, ?_⟩
  · rw [Str.length_append, sizeLine_eq]
    show 0 + c.length ≤ _
    omega
  · refine ⟨_, h1, .inr ⟨n, rfl, hn, _, rfl, ?_, hq _⟩⟩
    rw [Str.length_append, Str.length_append, sizeLine_eq]
    show 0 + c.length + _ ≤ _
    omega
theorem msg_ok3 {sc : Scope} {fld c c2 : Str} {p1 p2 p3 p4 p5 : Pos} {j j2 : Nat} (hv : sc.names.lookup fld = some .local) (hd : (fld == ("__debug__" : Str)) = false) (hdc : (fld == ("__classdict__" : Str)) = false) (hc : c.length ≤ 1000) (hc2 : c2.length ≤ 1000) (X : Cx) (hN : X.N = [("self" : Str), fld]) (hs : X.env.scope = sc) :
    ∃ t, PE X (.JoinedStr [.Constant (.str c) j p1, .FormattedValue (.Name fld p2) (-1) none p3, .Constant (.str c2) j2 p5] p4) t ∧ ∀ (σ : L2.St) (n : Int) (H : Hp) (Q : VK), σ[1]? = some (some (.int n)) → n.natAbs.log2 < 1920 → (∀ z : Str, Q (.str z) H) → t σ H Q := by
  refine ⟨_, pe_joined (.cons pe_str (.cons (pe_fmt (pe_var (i := 1) (by rw [hN]; rfl) (.inl (by rw [hs]; exact hv)) hd hdc)) (.cons pe_str .nil))), fun σ n H Q h1 hn hq => ?_⟩
  have l1 := str_int_len hn
  refine ⟨c, rfl, ?_, ?_⟩
  · rw [Str.length_append, sizeLine_eq]
    show 0 + c.length ≤ _
    omega
  · refine ⟨_, h1, .inr ⟨n, rfl, hn, _, rfl, ?_, c2, rfl, ?_, hq _⟩⟩
    · rw [Str.length_append, Str.length_append, sizeLine_eq]
      show 0 + c.length + _ ≤ _
      omega
    · rw [Str.length_append, Str.length_append, Str.length_append, sizeLine_eq]
      show 0 + c.length + _ + _ ≤ _
      omega
end Rz

namespace Rz
open PySem PySem.Spec PyProof.Rows L2

/-! ### enumerate(text) -/
def Ites (x : Str) : It :=
  ⟨fun i _ => i < x.cps.size, fun i H v H' => ∃ T c, v = .ref T ∧ H T = none ∧ H' = upd H T (.tup [.int (i : Nat), .str ⟨#[c]⟩]) ∧ x.cps[i]? = some c, fun i _ => i = x.cps.size⟩
theorem turn_enumS {P : Program} {w : World} {K : PySem.W.Frag} {elts : List Expr} {kk : Nat} {tpos : Pos} (e it : Addr) (x : Str) (t : Tok) :
    Turn P w K (.Tuple elts kk tpos) (Ites x) [e, it] e (fun i h => (∃ old, IsEnum h e it ((i : Nat) : Int) old) ∧ h.IsStrIter it (strIterType x) x t i ∧ e ≠ it) where
  mem := by simp
  obj := fun i h st b hb => by
    obtain ⟨⟨old, he⟩, ⟨o, ho, hc, hd⟩, _⟩ := st
    have z2 : b = e ∨ b = it := by simpa using hb
    rcases z2 with rfl | rfl
    · exact ⟨_, he, fun v q => nomatch q⟩
    · exact ⟨o, ho, fun v q => by rw [hd] at q; cases q⟩
  keep := fun i h h' st k => by
    obtain ⟨⟨old, he⟩, ⟨o, ho, r⟩, hne⟩ := st
    exact ⟨⟨old, k e (by simp) _ he⟩, ⟨o, k it (by simp) _ ho, r⟩, hne⟩
  item := by
    intro X hP hw hK hc i pins s σ H E I hf st hg
    subst hP hw hK
    obtain ⟨⟨old, he⟩, hit, hne⟩ := st
    have hel : e < s.heap.objs.size := Heap.lt_size he
    have hil : it < s.heap.objs.size := by obtain ⟨_, q, _⟩ := hit; exact Heap.lt_size q
    have D := Draws.text (prog := X.prog) (w := X.w) (A := X.A.in1) (I.ok.hd hc) it x t
    refine wpAny_pyNext_enum_itemD D he hit hg hne (by simpa using hne) fun u h' tk hu ho hit2 hT hsz hk => ?_
    obtain ⟨c, tc, hcx, rfl⟩ := hu
    refine ⟨_, rfl, wpAny_letOwnedTupleGo_enum (s := { s with heap := h', toks := tk + 1 }) ho fun h2 he2 sb => ?_⟩
    have hT2 : h2.get? s.heap.objs.size = some { cls := .type "tuple", data := .seq #[.int i tk, .str ⟨#[c]⟩ tc] } := (sb.2 _ (Nat.ne_of_gt hel)).trans hT
    have new : ObjOk X.prog X.w (upd H s.heap.objs.size (.tup [.int (i : Nat), .str ⟨#[c]⟩])) h2 s.heap.objs.size (.tup [.int (i : Nat), .str ⟨#[c]⟩]) :=
      ⟨by show 2 ≤ sizeLine; decide, [.int i tk, .str ⟨#[c]⟩ tc], .cons ⟨_, rfl⟩ (.cons ⟨_, rfl⟩ .nil), ⟨_, hT2, rfl, _, rfl⟩⟩
    have J : Inv X pins σ (upd H s.heap.objs.size (.tup [.int (i : Nat), .str ⟨#[c]⟩])) { s with heap := h2, toks := tk + 1 } :=
      I.turnedNew (t' := tk + 1) (ch := [e, it]) (fun b ob hb q => (sb.2 b (fun z => hb (by simp [z]))).trans (hk b ob (fun z => hb (by simp [z])) (fun z => hb (by simp [z])) q)) hf (Nat.le_refl _) new
    obtain ⟨oi, e3, r3⟩ := hit2
    refine ⟨.ref s.heap.objs.size, _, J, rfl, ⟨_, c, rfl, I.hok.fresh (Nat.le_refl _), rfl, hcx⟩, ⟨⟨.str ⟨#[c]⟩ tc, ?_⟩, ⟨oi, (sb.2 it (Ne.symm hne)).trans e3, r3⟩, hne⟩, fun b hb => ?_⟩
    · have e1 : ((i + 1 : Nat) : Int) = (i : Int) + 1 := by omega
      rw [e1]
      exact he2
    · have hbl : b < s.heap.objs.size := by
        have z2 : b = e ∨ b = it := by simpa using hb
        rcases z2 with rfl | rfl
        · exact hel
        · exact hil
      rw [upd_ne (Nat.ne_of_lt hbl)]
      exact (hf b hb).1
  done := by
    intro X hP hw hK hc i pins s σ H E I hf st hg
    subst hP hw hK
    obtain ⟨⟨old, he⟩, hit, hne⟩ := st
    obtain ⟨f0, f1, f2, f3, f4, f5⟩ := hf it (by simp)
    have D := Draws.text (prog := X.prog) (w := X.w) (A := X.A.in1) (I.ok.hd hc) it x t
    have hg' : i = x.cps.size := hg
    subst hg'
    exact wpAny_pyNext_enum_endD D he hit fun h' eb => ⟨rfl, I.turned (t' := s.toks) (fun b o hb q => eb b o hb q) f0 f1 f3 f4 f5⟩
  self := fun A i s Q E st h => let ⟨⟨_, he⟩, _⟩ := st; wpAny_pyIter_enum he h
theorem walk_enumS {z : Str} : Walk (Ites z) z.cps.size (fun _ => True) (fun i H v H' => ∃ T c, v = .ref T ∧ H T = none ∧ H' = upd H T (.tup [.int (i : Nat), .str ⟨#[c]⟩]) ∧ z.cps.toList[i]? = some c) :=
  ⟨fun _ _ hi _ => hi, fun _ _ => rfl, fun i H x H' _ _ y => by
    obtain ⟨T, c, e1, e2, e3, e4⟩ := y
    exact ⟨T, c, e1, e2, e3, by rw [Array.getElem?_toList]; exact e4⟩⟩
def iEnumS (ta : TA) : TI := fun σ H R => ta σ H fun vs H1 => ∃ x, vs = [.str x] ∧ R (Ites x) H1
theorem pi_enumS {X : Cx} {e : Expr} {ta : TA} {p pos tpos : Pos} {elts : List Expr} {kk : Nat} (hg : Gl X "enumerate") (hm : X.mg "enumerate" = none) (ha : PA X [e] ta) (hs : starEach [e] X.env = [(false, eval e X.env)] := by rfl) :
    PI X (.Tuple elts kk tpos) (.Call (.Name "enumerate" p) [e] [] pos) (iEnumS ta) := by
  refine ⟨fun pins s σ H R I h => ?_⟩
  refine Call_ (ld_blt I hg hm boot_enumerate (PyProof.Rows.callWith_type1 (thn (ha.run pos pins s σ H _ I h) fun us s1 ⟨vs, H1, I1, r1, q1⟩ => ?_) hs rfl))
  obtain ⟨x, rfl, q⟩ := q1
  obtain ⟨u, rfl, ru⟩ := vals1 r1
  obtain ⟨t, rfl⟩ := ru
  refine call_enumerate_str fun h' he hit hsz hk => wpAny_pyIter_enum he ?_
  have J : Inv X pins σ H1 { s1 with heap := h' } := I1.kept (t' := s1.toks) hk
  refine ⟨s1.heap.objs.size + 1, [s1.heap.objs.size + 1, s1.heap.objs.size], _, _, H1, rfl, J, turn_enumS (s1.heap.objs.size + 1) s1.heap.objs.size x t, ⟨⟨.none, he⟩, hit, Nat.succ_ne_self _⟩, fun b hb => ?_, q⟩
  have hle : s1.heap.objs.size ≤ b := by
    have z2 : b = s1.heap.objs.size + 1 ∨ b = s1.heap.objs.size := by simpa using hb
    rcases z2 with rfl | rfl
    · exact Nat.le_add_right _ _
    · exact Nat.le_refl _
  exact I1.fpOk hle (I1.hok.fresh hle)
end Rz

namespace Rz
open PySem PySem.Spec PyProof.Rows L2

abbrev SuR := Addr → Value → Option Addr → TS
/-- a clause: its class, the slot of its name if it has one, its suite -/
abbrev Cls1 := Value × Option Nat × SuR
def endM (i : Option Nat) (D : Ends) : Ends := match i with
  | none => D
  | some i => { nx := fun σ H => D.nx (σ.set i none) H, rt := D.rt, bk := fun σ H => D.bk (σ.set i none) H, ct := fun σ H => D.ct (σ.set i none) H }
def stM (i : Option Nat) (a : Addr) (σ : L2.St) : L2.St := match i with
  | none => σ
  | some i => σ.set i (some (.ref a))
def wMix (K : PySem.W.Frag) (Wout : WX) (D : Ends) : List Cls1 → WX
  | [] => Wout
  | (c, i, ts) :: r => fun cls d σ H => ∃ b, PySem.W.exmOne K cls c = some b ∧ (b = true → ∀ a, H a = none → ts a cls d (endM i D) (stM i a σ) H) ∧ (b = false → wMix K Wout D r cls d σ H)
inductive HdsM (X : Cx) : List ExceptHandler → List Cls1 → Prop
  | nil : HdsM X [] []
  | plain {x : Str} {c : Value} {ts : SuR} {b0 : Stmt} {suite : List Stmt} {np p2 : Pos} {hds : List ExceptHandler} {l : List Cls1} (hc : Names X x c)
      (su : ∀ (a : Addr) (oe : Obj) (cls : Value) (d : Option Addr) (pn : List (Addr × Obj)), Zc cls d oe → (∃ vs, oe.data = .fields vs) → PSs (X.suite a ((a, oe) :: pn)) (b0 :: suite) (ts a cls d))
      (r : HdsM X hds l) : HdsM X (.ExceptHandler (some (.Name x np)) none (b0 :: suite) p2 :: hds) ((c, none, ts) :: l)
  | named {x n : Str} {i : Nat} {c : Value} {ts : SuR} {b0 : Stmt} {suite : List Stmt} {np p2 : Pos} {hds : List ExceptHandler} {l : List Cls1} (hN : X.N.Nodup) (hi : X.N[i]? = some n) (hl : X.env.kindOf n = some .local) (hc : Names X x c)
      (su : ∀ (a : Addr) (oe : Obj) (cls : Value) (d : Option Addr) (pn : List (Addr × Obj)), Zc cls d oe → (∃ vs, oe.data = .fields vs) → PSs (X.suite a ((a, oe) :: pn)) (b0 :: suite) (ts a cls d))
      (r : HdsM X hds l) : HdsM X (.ExceptHandler (some (.Name x np)) (some n) (b0 :: suite) p2 :: hds) ((c, some i, ts) :: l)
section
variable {X : Cx} {body : List Stmt} {h0 : ExceptHandler} {hds : List ExceptHandler} {l : List Cls1} {pos : Pos} {tb : WX → TS} {Wout : WX}
theorem ps_try_mix (hs : X.stack = X.env :: X.outer) (hf : X.env.frame = some X.env.locals) (tk : Takes X Wout)
    (hb : ∀ (W : WX) (pn : List (Addr × Obj)) (xe : Value → Shared → Prop), Takes (X.tr pn xe) W → PassesOwn (model X.prog X.w) X.A X.env xe → PSs (X.tr pn xe) body (tb W))
    (hh : HdsM X (h0 :: hds) l) : PS X (.Try body (h0 :: hds) [] [] pos) (fun D σ H => tb (wMix X.K Wout D l) D σ H) := by
  refine ⟨fun pins s σ H D I h => ?_⟩
  have ok := I.ok
  have fr0 : X.A.frames = some (X.env :: X.outer) := ok.frames.trans (by rw [hs])
  refine wpAny_Try_except ?_
  refine wpAny_mono ((hb (wMix X.K Wout D l) (X.pn ++ pins) (fun e sa => wpAny (model X.prog X.w) X.A (noteFrame e X.env) (fun _ sb => wpAny (model X.prog X.w) X.A (setFlight e none) (fun _ sc =>
    wpAny (model X.prog X.w) X.A (handleBy e X.env (h0 :: hds)) (SP X pins D) X.xe sc) X.xe sb) X.xe sa) (fun u s2 air => ?_) PassesOwn.looking).run [] s σ H D (I.toTry _) h) (fun f s1 hsp => ?_) (fun e s1 he => he)
  · obtain ⟨a, B, sI, pins2, σ2, H2, cls, d, rfl, J0, nb, up, sky, na, os, ag, w⟩ := air
    have J := J0.ofTry ok
    rw [hs] at sky
    show wpAny (model X.prog X.w) X.A (noteFrame (.ref a) X.env) _ _ _
    refine Sky.land Zc.steady fr0 hf sky fun g3 fl3 up3 => ?_
    have J3 : Inv X pins σ2 H2 { s2 with heap := g3 } := J.landed nb fl3.1 (up.trans up3) os ag
    obtain ⟨o3, vs3, e3, z3, d3⟩ := fl3.there
    have nfr : a ∉ frs (X.env :: X.outer) := fun hm => by
      obtain ⟨_, o', e', hnf⟩ := fl3.2.2.1.mem hm
      rw [e3] at e'
      cases e'
      exact hnf _ d3
    have nL : a ≠ X.env.locals := fun z => nfr (List.mem_filterMap.mpr ⟨X.env, List.mem_cons_self, by rw [hf, z]⟩)
    have nF : a ∉ X.fs := fun hm => by
      obtain ⟨e, he, q⟩ := List.mem_filterMap.mp hm
      exact nfr (List.mem_filterMap.mpr ⟨e, List.mem_cons_of_mem _ he, q⟩)
    have S3 := J3.suite e3 d3 na nL nF
    have look : ∀ {x : Str} {np : Pos} {c : Value} {Q : Value → Shared → Prop} {E : Value → Shared → Prop}, Names X x c → Q c { s2 with heap := g3 } → wpAny (model X.prog X.w) (X.A.mark (some (.ref a))) (eval (.Name x np) X.env) Q E { s2 with heap := g3 } := fun {x np c Q E} hc q => by
      obtain ⟨hg, hdbg, hm | ⟨hm, hv, hnn⟩⟩ := hc
      · exact ld_glob (X := X.suite a ((a, o3) :: (X.pn ++ pins))) S3 hg hm q hdbg
      · exact ld_blt (X := X.suite a ((a, o3) :: (X.pn ++ pins))) S3 hg hm hv q hnn hdbg
    have LT : PySem.W.Looks (model X.prog X.w) g3 (typeOf (.ref a)) cls := fun A Q E s k q => wpAny_typeOf_ref (k _ _ e3) (by rw [z3.1]; exact q)
    have go : ∀ {hds2 : List ExceptHandler} {l2 : List Cls1}, HdsM X hds2 l2 → wMix X.K Wout D l2 cls d σ2 H2 →
        wpAny (model X.prog X.w) X.A (handleBy (.ref a) X.env hds2) (SP X pins D) X.xe { s2 with heap := g3 } := by
      intro hds2 l2 hk
      induction hk with
      | nil =>
        intro w
        refine wpAny_handleBy_nil ?_
        obtain ⟨k1, k2, k3, oe, vs, T, oT, tr, he, hz, hd, h1, hr⟩ := id fl3
        unfold PySem.passOn
        refine wpAny_bind (wpAny_field he hd h1 ?_)
        rw [if_neg (show ¬ ((Value.ref T == Value.none) = true) from by simp)]
        have fin : wpAny (model X.prog X.w) X.A (setFlight (.ref a) X.env.frame) (fun _ s4 => wpAny (model X.prog X.w) X.A (throw (.ref a) : Sem Flow) (SP X pins D) X.xe s4) X.xe { s2 with heap := g3 } := by
          rw [hf]
          refine HandSPX.setFlight_upZ fl3 fun g4 hh4 up4 => wpAny_throw (tk _ _ ?_)
          exact ⟨a, B, sI, pins, σ2, H2, cls, d, rfl, J, nb, (up.trans up3).trans up4, .inr (.inr (by rw [hs]; exact hh4)), na, os, ag, w⟩
        first
          | exact wpAny_bind (wpAny_pure (wpAny_bind fin))
          | exact wpAny_bind fin
      | @plain x c ts b0 suite np p2 hds3 l3 hc su r ih =>
        intro w
        obtain ⟨b, hb1, hyes, hno⟩ := w
        refine wpAny_handleBy_cons (codeAny_handlers_test ?_) (by intro q; cases q)
        refine look hc ((PySem.W.exm_one (M := model X.prog X.w) J3.kIn LT hb1).here ?_)
        cases b with
        | true =>
          refine codeAny_handlers_suite ?_
          refine HandSPX.lands_againZ fl3 fun g4 fl4 up4 => ?_
          have J4 : Inv X pins σ2 H2 { s2 with heap := g4 } := J.landed nb fl4.1 ((up.trans up3).trans up4) os ag
          obtain ⟨o4, vs4, e4, z4, d4⟩ := fl4.there
          refine wpAny_mono ((su a o4 cls d (X.pn ++ pins) z4 ⟨_, d4⟩).run [] _ _ H2 _ (J4.suite e4 d4 na nL nF) (hyes rfl a na)) (fun f s6 hsp => ?_) (fun _ _ z => False.elim z)
          cases f with
          | next => obtain ⟨_, _, S6, q6⟩ := hsp; exact ⟨_, _, S6.unsuite ok, q6⟩
          | brk => obtain ⟨_, _, S6, q6⟩ := hsp; exact ⟨_, _, S6.unsuite ok, q6⟩
          | cont => obtain ⟨_, _, S6, q6⟩ := hsp; exact ⟨_, _, S6.unsuite ok, q6⟩
          | ret u => obtain ⟨_, _, _, S6, r6, q6⟩ := hsp; exact ⟨_, _, _, S6.unsuite ok, r6, q6⟩
        | false =>
          show wpAny _ X.A (handleBy (.ref a) X.env hds3) _ _ _
          exact ih (hno rfl)
      | @named x n i c ts b0 suite np p2 hds3 l3 hN hi hln hc su r ih =>
        intro w
        obtain ⟨b, hb1, hyes, hno⟩ := w
        refine wpAny_handleBy_cons (codeAny_handlers_test ?_) (by intro q; cases q)
        refine look hc ((PySem.W.exm_one (M := model X.prog X.w) J3.kIn LT hb1).here ?_)
        cases b with
        | true =>
          refine codeAny_handlers_suite_as ?_
          refine HandSPX.lands_againZ fl3 fun g4 fl4 up4 => ?_
          have J4 : Inv X pins σ2 H2 { s2 with heap := g4 } := J.landed nb fl4.1 ((up.trans up3).trans up4) os ag
          obtain ⟨o4, vs4, e4, z4, d4⟩ := fl4.there
          refine store_ok (X := X.suite a ((a, o4) :: (X.pn ++ pins))) (v := .ref a) (J4.suite e4 d4 na nL nF) hN hi (.inl hln) rfl (fun s5 S5 => ?_) (.inr hln)
          refine wpAny_mono ((su a o4 cls d (X.pn ++ pins) z4 ⟨_, d4⟩).run [] s5 _ H2 _ S5 (hyes rfl a na)) (fun f s6 hsp => ?_) (fun _ _ z => False.elim z)
          have away : ∀ {σ6 : L2.St} {H6 : Hp} {Q : Shared → Prop}, Inv (X.suite a ((a, o4) :: (X.pn ++ pins))) [] σ6 H6 s6 → (∀ s7, Inv X pins (σ6.set i none) H6 s7 → Q s7) →
              wpAny (model X.prog X.w) X.A (do bindName X.env n .none; unbindBehindTheSuite X.env n p2) (fun _ s7 => Q s7) X.xe s6 := fun {σ6 H6 Q} S6 hq => gone_ok (S6.unsuite ok) hN hi hln hq
          cases f with
          | next => obtain ⟨_, _, S6, q6⟩ := hsp; exact away S6 fun s7 J7 => ⟨_, _, J7, q6⟩
          | brk => obtain ⟨_, _, S6, q6⟩ := hsp; exact away S6 fun s7 J7 => ⟨_, _, J7, q6⟩
          | cont => obtain ⟨_, _, S6, q6⟩ := hsp; exact away S6 fun s7 J7 => ⟨_, _, J7, q6⟩
          | ret u => obtain ⟨_, _, _, S6, r6, q6⟩ := hsp; exact away S6 fun s7 J7 => ⟨_, _, _, J7, r6, q6⟩
        | false =>
          show wpAny _ X.A (handleBy (.ref a) X.env hds3) _ _ _
          exact ih (hno rfl)
    exact go hh w
  · cases f with
    | next => obtain ⟨_, _, S6, q6⟩ := hsp; exact wpAny_execs_nil ⟨_, _, S6.ofTry ok, q6⟩
    | brk => obtain ⟨_, _, S6, q6⟩ := hsp; exact ⟨_, _, S6.ofTry ok, q6⟩
    | cont => obtain ⟨_, _, S6, q6⟩ := hsp; exact ⟨_, _, S6.ofTry ok, q6⟩
    | ret u => obtain ⟨_, _, _, S6, r6, q6⟩ := hsp; exact ⟨_, _, _, S6.ofTry ok, r6, q6⟩
end
end Rz

namespace Rz
open PySem PySem.Spec PyProof.Rows L2
/-! ### calls whose exceptions are wished for at the caller's slots -/
abbrev EX := L2.St → XK
/-- nothing is let out -/
abbrev EN : EX := fun _ => E0
theorem atN {X : Cx} (σ : L2.St) : PassesAt (L2.CX X.prog X.w) X σ (EN σ) := fun _ _ _ _ _ _ h => by
  obtain ⟨_, _, _, _, _, _, _, _, _, _, _, _, z⟩ := h
  exact z.elim
section
variable {X : Cx} {CX : CXT} {k : Nat} {f C : Addr} {fd : FuncData} {ps : List Str} {sp : Sp} {dvs : List V} {ds : List Value} {E : EX} {x m : Str} {p pos apos : Pos} {e o : Expr} {es : List Expr} {ta : TE} {t : TA}
theorem run_X {pins : List (Addr × Obj)} {σ : L2.St} {H : Hp} {s : Shared} {Q : VK} {us : List Value} {vs : List V} {A : Around} (F : FnOk X.prog X.w X.K X.mg X.base CX k f fd ps sp) (hr : Room k A) (hfr : A.frames = X.A.frames) (hb : Binds X.K fd ps ds) (hd : Vals dvs ds) (hx : PassesAt CX X σ (E σ))
    (I : Inv X pins σ H s) (r : Vals vs us) (h : sp (vs ++ dvs) H Q (E σ)) : codeAny (model X.prog X.w) A (.call (.ref f) ⟨us, []⟩) (fun q s' => match q with
      | .ok (.ret u) => EP X pins σ Q u s'
      | .ok _ => False
      | .error er => X.xe er s') s := by
  have e0 : Env0 X.prog X.w X.K X.mg X.base A X.stack s H := by
    have z := I.env0
    exact ⟨by rw [hfr]; exact z.frames, z.mod, z.bs, z.bsz, z.funs, z.frf, z.hok, z.bare⟩
  have hz := F.len _ _ _ _ h
  rw [(r.append hd).length] at hz
  refine codeAny_mono (F.run A X.stack s H ⟨us, []⟩ (us ++ ds) (vs ++ dvs) Q (E σ) hr e0 (hb s us I.kIn hz) (r.append hd) h) fun q s' hq => ?_
  match q, hq with
  | .error er, hq => exact hx pins H s er s' I hq
  | .ok (.ret u), hq => exact I.after hq
  | .ok .next, hq => exact hq
  | .ok .brk, hq => exact hq
  | .ok .cont, hq => exact hq
theorem ended {pins : List (Addr × Obj)} {σ : L2.St} {Q : VK} {q : Result} {s' : Shared} (h : match q with
      | .ok (.ret u) => EP X pins σ Q u s'
      | .ok _ => False
      | .error er => X.xe er s') : wants (EP X pins σ Q) X.xe q s' := by
  match q, h with
  | .error er, h => exact h
  | .ok (.ret u), h => exact h
  | .ok .next, h => exact h.elim
  | .ok .brk, h => exact h.elim
  | .ok .cont, h => exact h.elim
theorem run_XC {pins : List (Addr × Obj)} {σ : L2.St} {H : Hp} {s : Shared} {Q : VK} {us : List Value} {vs : List V} (F : FnOk X.prog X.w X.K X.mg X.base CX k f fd ps sp) (hr : Room k X.A) (hb : Binds X.K fd ps ds) (hd : Vals dvs ds) (hx : PassesAt CX X σ (E σ))
    (I : Inv X pins σ H s) (r : Vals vs us) (h : sp (vs ++ dvs) H Q (E σ)) : wpAny (model X.prog X.w) X.A (call (.ref f) us) (EP X pins σ Q) X.xe s :=
  wpAny_call (codeAny_mono (run_X F hr rfl hb hd hx I r h) fun _ _ hq => ended hq)
/-- f(..) -/
def tFn (sp : Sp) (dvs : List V) (E : EX) (t : TA) : TE := fun σ H Q => t σ H fun vs H1 => sp (vs ++ dvs) H1 Q (E σ)
theorem pe_fn (F : FnOk X.prog X.w X.K X.mg X.base CX k f fd ps sp) (hr : Room k X.A) (hg : Gl X x) (hm : X.mg x = some (.ref f)) (hk : PySem.W.keepIn X.K (.ref f) = true) (hb : Binds X.K fd ps ds) (hd : Vals dvs ds) (hx : ∀ σ, PassesAt CX X σ (E σ))
    (ha : PA X (e :: es) t) (hdb : (x == ("__debug__" : Str)) = false := by decide) (he : starEach (e :: es) X.env = (false, eval e X.env) :: starEach es X.env := by rfl) (hpl : (backTo pos (starEach es X.env)).any (·.1) = false := by rfl) :
    PE X (.Call (.Name x p) (e :: es) [] pos) (tFn sp dvs E t) := ⟨fun pins s σ H Q I h =>
  wpAny_Call_Name_kw (ld_glob I hg hm (PySem.W.callWith_K (h₀ := X.base) I.ok.mod.kin hk (thn (ha.run pos pins s σ H _ I h) fun us s1 ⟨vs, H1, J, r, q⟩ => ⟨J.kIn, run_XC F hr hb hd (hx σ) J r q⟩) he hpl) hdb)⟩
theorem pe_fn0 (F : FnOk X.prog X.w X.K X.mg X.base CX k f fd ps sp) (hr : Room k X.A) (hg : Gl X x) (hm : X.mg x = some (.ref f)) (hk : PySem.W.keepIn X.K (.ref f) = true) (hb : Binds X.K fd ps ds) (hd : Vals dvs ds) (hx : ∀ σ, PassesAt CX X σ (E σ))
    (hdb : (x == ("__debug__" : Str)) = false := by decide) : PE X (.Call (.Name x p) [] [] pos) (tFn sp dvs E tNil) := ⟨fun pins s σ H Q I h =>
  wpAny_Call_Name_kw (ld_glob I hg hm (PySem.W.callWith_K0 I.kIn hk (run_XC (us := []) F hr hb hd (hx σ) I .nil h)) hdb)⟩
/-- o.m(..) -/
def tMt (C : Addr) (m : Str) (sp : Sp) (dvs : List V) (E : EX) (ta : TE) (t : TA) : TE := fun σ H Q => ta σ H fun x H1 => ∃ a dx fs, x = .ref a ∧ H1 a = some (.ins C dx fs) ∧ fs.lookup m = none ∧
  t σ H1 fun vs H2 => sp (x :: (vs ++ dvs)) H2 Q (E σ)
theorem pe_mt {pl : Sem Bool} (he : PE X o ta) (c : Cls X.K C) (hm : Meth X.K C m f) (F : FnOk X.prog X.w X.K X.mg X.base CX k f fd ps sp) (hr : Room k X.A) (hb : Binds X.K fd ps ds) (hd : Vals dvs ds) (hx : ∀ σ, PassesAt CX X σ (E σ)) (ha : PA X (e :: es) t)
    (hst : starEach (e :: es) X.env = (false, eval e X.env) :: starEach es X.env := by rfl) (hpl : (backTo pos (starEach es X.env)).any (·.1) = false := by rfl)
    (ht : eval (.Call (.Attribute o m apos) (e :: es) [] pos) X.env = (do
      let ov ← eval o X.env
      standAt apos.atName
      let (f, first) ← holding [ov] (getMethod ov m pl)
      callWith pos f first (backTo pos (starEach (e :: es) X.env)) (backToKw pos (keywordEach [] X.env))) := by rfl) :
    PE X (.Call (.Attribute o m apos) (e :: es) [] pos) (tMt C m sp dvs E ta t) := by
  refine ⟨fun pins s σ H Q I h => PySem.W.methodCall_KW (pl := pl) (thn (he.run pins s σ H _ I h) fun u s1 hh => ?_) ht⟩
  obtain ⟨x, H1, J, rx, a, dx, fs, rfl, ea, l, q⟩ := hh
  obtain rfl : u = Value.ref a := rx
  refine getmeth_ok J ea c hm l (PySem.W.callWith_K (first := [.ref a]) (h₀ := X.base) I.ok.mod.kin hm.kp (thn (ha.run pos pins s1 σ H1 _ J q) fun us s2 ⟨vs, H2, J2, r, q2⟩ => ⟨J2.kIn, ?_⟩) hst hpl)
  exact run_XC (us := .ref a :: us) (vs := .ref a :: vs) F hr hb hd (hx σ) J2 (.cons rfl r) q2
theorem pe_mt0 {pl : Sem Bool} (he : PE X o ta) (c : Cls X.K C) (hm : Meth X.K C m f) (F : FnOk X.prog X.w X.K X.mg X.base CX k f fd ps sp) (hr : Room k X.A) (hb : Binds X.K fd ps ds) (hd : Vals dvs ds) (hx : ∀ σ, PassesAt CX X σ (E σ))
    (ht : eval (.Call (.Attribute o m apos) [] [] pos) X.env = (do
      let ov ← eval o X.env
      standAt apos.atName
      let (f, first) ← holding [ov] (getMethod ov m pl)
      callWith pos f first (backTo pos (starEach [] X.env)) (backToKw pos (keywordEach [] X.env))) := by rfl) :
    PE X (.Call (.Attribute o m apos) [] [] pos) (tMt C m sp dvs E ta tNil) := by
  refine ⟨fun pins s σ H Q I h => PySem.W.methodCall_KW (pl := pl) (thn (he.run pins s σ H _ I h) fun u s1 hh => ?_) ht⟩
  obtain ⟨x, H1, J, rx, a, dx, fs, rfl, ea, l, q⟩ := hh
  obtain rfl : u = Value.ref a := rx
  refine getmeth_ok J ea c hm l (PySem.W.callWith_K0 (first := [.ref a]) J.kIn hm.kp ?_)
  exact run_XC (us := [.ref a]) (vs := [.ref a]) F hr hb hd (hx σ) J (.cons rfl .nil) q
/-- C(..): a new instance, then its __init__ -/
def tMk (C : Addr) (sp : Sp) (dvs : List V) (E : EX) (t : TA) : TE := fun σ H Q => t σ H fun vs H1 => ∀ x dx, H1 x = none → H1 dx = none → dx ≠ x →
  sp (.ref x :: (vs ++ dvs)) (upd (upd H1 dx (.own x)) x (.ins C dx [])) (fun v H2 => v = .non ∧ Q (.ref x) H2) (E σ)
theorem run_mk {pins : List (Addr × Obj)} {σ : L2.St} {H : Hp} {s : Shared} {Q : VK} {us : List Value} {vs : List V} (M : Mk X.K C f) (F : FnOk X.prog X.w X.K X.mg X.base CX k f fd ps sp) (hr : Room (k + 1) X.A) (hb : Binds X.K fd ps ds) (hd : Vals dvs ds)
    (hx : PassesAt CX X σ (E σ)) (I : Inv X pins σ H s) (r : Vals vs us)
    (h : ∀ x dx, H x = none → H dx = none → dx ≠ x → sp (.ref x :: (vs ++ dvs)) (upd (upd H dx (.own x)) x (.ins C dx [])) (fun v H2 => v = .non ∧ Q (.ref x) H2) (E σ)) :
    wpAny (model X.prog X.w) X.A (call (.ref C) us) (EP X pins σ Q) X.xe s := by
  have hq := h (s.heap.objs.size + 1) s.heap.objs.size (I.hok.fresh (Nat.le_succ _)) (I.hok.fresh (Nat.le_refl _)) (Nat.ne_of_lt (Nat.lt_succ_self _))
  have J := Inv.made (C := C) I
  refine wpAny_call (make_map (f := f) I.kIn M.makes M.init (beq_iff_eq.mp M.fn) (codeAny_mono (run_X (vs := .ref (s.heap.objs.size + 1) :: vs) (us := .ref (s.heap.objs.size + 1) :: us) F (hr.make C us []) ((J.env0.make C us []).frames.trans J.ok.frames.symm) hb hd hx J (.cons rfl r) hq) fun q s' hq' => ?_))
  match q, hq' with
  | .error er, hq' => exact hq'
  | .ok (.ret u), hq' =>
    obtain ⟨v, H2, J2, rv, ev, q3⟩ := hq'
    subst ev
    exact ⟨rv, ⟨V.ref (s.heap.objs.size + 1), H2, J2, rfl, q3⟩⟩
  | .ok .next, hq' => exact hq'.elim
  | .ok .brk, hq' => exact hq'.elim
  | .ok .cont, hq' => exact hq'.elim
theorem pe_mk (M : Mk X.K C f) (F : FnOk X.prog X.w X.K X.mg X.base CX k f fd ps sp) (hr : Room (k + 1) X.A) (hg : Gl X x) (hm : X.mg x = some (.ref C)) (hb : Binds X.K fd ps ds) (hd : Vals dvs ds) (hx : ∀ σ, PassesAt CX X σ (E σ))
    (ha : PA X (e :: es) t) (hdb : (x == ("__debug__" : Str)) = false := by decide) (he : starEach (e :: es) X.env = (false, eval e X.env) :: starEach es X.env := by rfl) (hpl : (backTo pos (starEach es X.env)).any (·.1) = false := by rfl) :
    PE X (.Call (.Name x p) (e :: es) [] pos) (tMk C sp dvs E t) := ⟨fun pins s σ H Q I h =>
  wpAny_Call_Name_kw (ld_glob I hg hm (PySem.W.callWith_K (h₀ := X.base) I.ok.mod.kin M.kp (thn (ha.run pos pins s σ H _ I h) fun us s1 ⟨vs, H1, J, r, q⟩ => ⟨J.kIn, run_mk M F hr hb hd (hx σ) J r q⟩) he hpl) hdb)⟩
theorem pe_mk0 (M : Mk X.K C f) (F : FnOk X.prog X.w X.K X.mg X.base CX k f fd ps sp) (hr : Room (k + 1) X.A) (hg : Gl X x) (hm : X.mg x = some (.ref C)) (hb : Binds X.K fd ps ds) (hd : Vals dvs ds) (hx : ∀ σ, PassesAt CX X σ (E σ))
    (hdb : (x == ("__debug__" : Str)) = false := by decide) : PE X (.Call (.Name x p) [] [] pos) (tMk C sp dvs E tNil) := ⟨fun pins s σ H Q I h =>
  wpAny_Call_Name_kw (ld_glob I hg hm (PySem.W.callWith_K0 I.kIn M.kp (run_mk (us := []) M F hr hb hd (hx σ) I .nil h)) hdb)⟩
/-- e.f, a property -/
def tPr (C : Addr) (sp : Sp) (E : EX) (ta : TE) : TE := fun σ H Q => ta σ H fun x H1 => ∃ a dx fs, x = .ref a ∧ H1 a = some (.ins C dx fs) ∧ sp [.ref a] H1 Q (E σ)
theorem pe_pr {p g : Addr} {fn : Str} (he : PE X e ta) (c : Cls X.K C) (hp : PropOf X.K C fn p g) (F : FnOk X.prog X.w X.K X.mg X.base CX k g fd ps sp) (hr : Room (k + 1) X.A) (hb : Binds X.K fd ps []) (hx : Passes CX X.nox E0)
    (hab : attributeBase e fn X.env (eval e X.env) = eval e X.env := by rfl) : PE X (.Attribute e fn pos) (tPr C sp EN ta) := by
  have z := pe_prop (pos := pos) he c hp F hr hb .nil hx hab
  exact z
end
/-- .. nothing leaves -/
theorem passN {X : Cx} : Passes (L2.CX X.prog X.w) X E0 := fun _ σ H s e s' I h => atN (X := X) σ [] H s e s' (I.pins_of (pins' := []) fun p hp => by cases hp) h
end Rz

namespace Rz
open PySem PySem.Spec PyProof.Rows L2
/-! ### short words -/
/-- all but what stands at D is as it was -/
def But (D : List Addr) (H H' : Hp) : Prop := ∀ b o, b ∉ D → H b = some o → H' b = some o
theorem But.refl (D : List Addr) (H : Hp) : But D H H := fun _ _ _ h => h
theorem But.trans {D : List Addr} {H H1 H2 : Hp} (a : But D H H1) (b : But D H1 H2) : But D H H2 := fun c o n h => b c o n (a c o n h)
theorem But.mono {D D' : List Addr} {H H' : Hp} (a : But D H H') (h : ∀ b ∈ D, b ∈ D') : But D' H H' := fun c o n e => a c o (fun z => n (h c z)) e
theorem But.of {D : List Addr} {H H' : Hp} (h : Same H H') : But D H H' := fun b o _ e => h b o e
theorem But.same {H H' : Hp} (h : But [] H H') : Same H H' := fun b o e => h b o (by simp) e
theorem But.at {D : List Addr} {H H' : Hp} {b : Addr} {o : HO} (h : But D H H') (e : H b = some o) (n : b ∉ D := by simp) : H' b = some o := h b o n e
theorem But.upd {D : List Addr} {H H' : Hp} {p : Addr} {o : HO} (h : But D H H') (hp : p ∈ D ∨ H p = none) : But D H (upd H' p o) := fun b u n e => by
  have nb : b ≠ p := fun z => by
    subst z
    rcases hp with hp | hp
    · exact n hp
    · rw [hp] at e; cases e
  rw [upd_ne nb]
  exact h b u n e
theorem Same.upd {H H' : Hp} {p : Addr} {o : HO} (h : Same H H') (hp : H p = none) : Same H (upd H' p o) := fun b u e => by
  have nb : b ≠ p := fun z => by
    subst z
    rw [hp] at e; cases e
  rw [upd_ne nb]
  exact h b u e
theorem Same.new {H H' : Hp} {p : Addr} {o : HO} (h : Same H H') (hp : H' p = none) : Same H (L2.upd H' p o) := Rz.Same.upd h (h.free hp)
theorem Same.seqT {K : PySem.W.Frag} {H H' : Hp} {a : Addr} {xs : List V} (e : Same H H') (h : SqT K H a xs) : SqT K H' a xs := by
  rcases h with (h | ⟨o, h⟩) | h
  · exact .inl (.inl (e _ _ h))
  · exact .inl (.inr ⟨o, e _ _ h⟩)
  · exact .inr h
theorem But.free {D : List Addr} {H H' : Hp} (e : But D H H') {l : Addr} (n : l ∉ D) (h : H' l = Option.none) : H l = Option.none := by
  cases q : H l with
  | none => rfl
  | some o => rw [e l o n q] at h; cases h
section
variable {P : Program} {w : World} {K : PySem.W.Frag} {mg : Str → Option Value} {base : Heap}
/-- a def that lets nothing out -/
theorem Fun.okN {x qual : Str} {st : Stmt} {f : Addr} {fd : FuncData} {N ps : List Str} {k : Nat} {sp : Sp} (F : Fun K x qual st f fd) (S : FnScope N ps (defScope st)) (len : ∀ vs H Q E, sp vs H Q E → vs.length = ps.length)
    (hb : ∀ (cdv : Value) (A : Around) (outer : List Env) (s : Shared) (H : Hp) (vs : List V) (Q : VK) (E : XK), Room k (A.deeper (envOfC qual (defScope st) s.heap.objs.size f cdv)) → sp vs H Q E →
      ∃ t, PSs (cxOf (L2.CX P w) P w K mg base N qual (defScope st) f cdv A outer s H E).nox (defBody st) t ∧ t { nx := fun _ H' => Q .non H', rt := Q } (start N vs) H) : FnOk P w K mg base (L2.CX P w) (k + 1) f fd ps sp :=
  F.okX S len fun cdv A outer s H vs Q E hr h => let ⟨t, h1, h2⟩ := hb cdv A outer s H vs Q E hr h; ⟨t, h1.nox, h2⟩
end
/-! ### the law's draws -/
def Dr (H : Hp) (d : Addr) : Prop := ∃ ns : List Int, H d = some (.lst (ns.map V.int)) ∧ ns.length ≤ 4000
theorem Dr.same {H H' : Hp} {d : Addr} (h : Dr H d) (e : Same H H') : Dr H' d := let ⟨ns, h1, h2⟩ := h; ⟨ns, e _ _ h1, h2⟩
theorem mapi_get {ns : List Int} {i : Nat} {y : V} (h : (ns.map V.int)[i]? = some y) : ∃ u, ns[i]? = some u ∧ y = .int u := by
  rw [List.getElem?_map] at h
  cases e : ns[i]? with
  | none => rw [e] at h; cases h
  | some u => rw [e] at h; exact ⟨u, rfl, (Option.some.inj h).symm⟩
theorem no_cx : ∀ {P : Program} (w : World) (H : Hp) (s : Shared) (e : Value) (s' : Shared), L2.CX P w [] H s (fun _ _ _ => False) e s' → False := fun _ _ _ _ _ h => by
  obtain ⟨_, _, _, _, _, _, _, _, _, _, _, _, z⟩ := h
  exact z
end Rz
namespace Rz
open PySem PySem.Spec PyProof.Rows L2
theorem joinL_nil : ∀ ps : List (List Nat), TL.joinL [] ps = ps.flatten
  | [] => rfl
  | [p] => by simp [TL.joinL]
  | p :: q :: r => by
    have ih := joinL_nil (q :: r)
    show p ++ ([] ++ TL.joinL [] (q :: r)) = _
    rw [ih]
    simp
theorem join0 (ys : List Str) : (Txt.join "" ys).cps.toList = (ys.map fun y => y.cps.toList).flatten := by
  rw [TL.join_eq]
  exact (TL.tl_join "" ys).trans (joinL_nil _)
theorem join0_len (ys : List Str) : (Txt.join "" ys).length = (ys.map fun y => y.length).sum := by
  have h := congrArg List.length (join0 ys)
  rw [List.length_flatten, List.map_map] at h
  exact h
/-- every sign of x is one of z -/
def Over (z x : Str) : Prop := ∀ c ∈ x.cps.toList, c ∈ z.cps.toList
theorem over_join {z : Str} {ys : List Str} (h : ∀ y ∈ ys, Over z y) : Over z (Txt.join "" ys) := fun c hc => by
  rw [join0, List.mem_flatten] at hc
  obtain ⟨l, hl, hc⟩ := hc
  obtain ⟨y, hy, rfl⟩ := List.mem_map.mp hl
  exact h y hy c hc
theorem sum_ones : ∀ {ys : List Str}, (∀ y ∈ ys, y.length = 1) → (ys.map fun y => y.length).sum = ys.length
  | [], _ => rfl
  | y :: r, h => by
    rw [List.map_cons, List.sum_cons, sum_ones (ys := r) fun z hz => h z (List.mem_cons_of_mem _ hz), h y List.mem_cons_self, List.length_cons]
    omega
theorem atI_in {α : Type} {xs : List α} {r : Int} (h0 : 0 ≤ r) (h1 : r < xs.length) : ∃ v, v ∈ xs ∧ atI xs r = some v := by
  obtain ⟨n, rfl⟩ := Int.eq_ofNat_of_zero_le h0
  have hn : n < xs.length := by omega
  exact ⟨xs[n], List.getElem_mem hn, atI_nat (List.getElem?_eq_getElem hn)⟩
theorem yesT {σ : L2.St} {H : Hp} {A B : Hp → Prop} (h : A H) : tYes σ H fun b H3 => if b = true then A H3 else B H3 := by
  show (if true = true then A H else B H)
  rw [if_pos rfl]
  exact h
theorem len_list (z : Str) : z.cps.toList.length = z.length := rfl
end Rz
namespace Rz
open PySem PySem.Spec PyProof.Rows L2
/-! ### signs -/
def abc : Str := "abcdefghijklmnopqrstuvwxyz"
def oddC (c : Nat) : Bool := !decide (c ∈ abc.cps.toList)
/-- the place of the first character that is no sign -/
def fo (z : Str) : Option Nat := z.cps.toList.findIdx? oddC
def foI (z : Str) : Int := match fo z with
  | some i => (i : Int)
  | none => -1
theorem fo_some {z : Str} {i : Nat} {c : Nat} (h : z.cps.toList[i]? = some c) (ho : oddC c = true) (hb : ∀ (j c : Nat), j < i → z.cps.toList[j]? = some c → oddC c = false) : fo z = some i := by
  obtain ⟨hi, hc⟩ := List.getElem?_eq_some_iff.mp h
  refine List.findIdx?_eq_some_iff_getElem.mpr ⟨hi, by rw [hc]; exact ho, fun j hj => ?_⟩
  have e := hb j _ hj (List.getElem?_eq_getElem (Nat.lt_trans hj hi))
  rw [e]
  exact Bool.false_ne_true
theorem fo_none {z : Str} (h : ∀ (j c : Nat), z.cps.toList[j]? = some c → oddC c = false) : fo z = none :=
  List.findIdx?_eq_none_iff.mpr fun c hc => by
    obtain ⟨j, hj, e⟩ := List.getElem_of_mem hc
    exact h j c (by rw [List.getElem?_eq_getElem hj, e])
theorem fo_lt {z : Str} {i : Nat} (h : fo z = some i) : i < z.length := by
  obtain ⟨hi, _⟩ := List.findIdx?_eq_some_iff_getElem.mp h
  exact hi
theorem log_small {n : Int} {k : Nat} (h : n.natAbs < 2 ^ k) (hk : k ≤ 1919) : n.natAbs.log2 < 1920 := by
  by_cases h0 : n.natAbs = 0
  · rw [h0]
    decide
  · exact Nat.lt_of_lt_of_le ((Nat.log2_lt h0).mpr h) (by omega)
theorem log_nat {i : Nat} (h : i < 2 ^ 64) : (i : Int).natAbs.log2 < 1920 := log_small (k := 64) (by simpa using h) (by decide)
end Rz
namespace Rz
open PySem PySem.Spec PyProof.Rows L2
/-- what is asked where such an exception is made, and what is known then -/
theorem raise_fld {C : Addr} {fld : Str} {n : Int} {H1 : Hp} {Q : XK} (hn : n.natAbs.log2 < 1920) (q : ∀ H' d, Same H1 H' → H1 d = none → H' d = some (.xd [(fld, .int n)]) → Q (.ref C) (some d) H') :
    ∀ a, H1 a = none → spExI C fld (.ref a :: ([V.int n] ++ [])) (upd H1 a (exo a C none))
      (fun v H2 => v = .non ∧ ∃ (d : Addr) (fs : List (Str × V)), H2 a = some (exo a C (some d)) ∧ H2 d = some (exd d fs) ∧ H1 d = none ∧ Q (.ref C) (some d) (upd (del H2 a) d (.xd fs))) (fun _ _ _ => False) := fun a ha => by
  refine ⟨a, n, rfl, hn, upd_same, fun dx hdx nda => ⟨rfl, dx, [(fld, .int n)], by rw [upd_same], ?_, ?_, ?_⟩⟩
  · rw [upd_ne nda, upd_same]
  · rw [upd_ne nda] at hdx
    exact hdx
  · have hd1 : H1 dx = none := by
      rw [upd_ne nda] at hdx
      exact hdx
    refine q _ dx (fun b o e => ?_) hd1 upd_same
    have nba : b ≠ a := ne_of_none e ha
    have nbd : b ≠ dx := ne_of_none e hd1
    rw [upd_ne nbd, del_ne nba, upd_ne nba, upd_ne nbd, upd_ne nba]
    exact e
end Rz

namespace Rz
open PySem PySem.Spec PyProof.Rows L2
/-! ### data: lists of ints -/
abbrev dInts (ns : List Int) : PyData := .list (ns.map PyData.int)
theorem all_ints_lay : ∀ ns : List Int, PyData.canLayAll0 (ns.map PyData.int) = true
  | [] => rfl
  | n :: ns => by simp only [List.map_cons, PyData.canLayAll0, PyData.canLay0, all_ints_lay ns, Bool.and_self]
theorem all_ints_depth : ∀ ns : List Int, PyData.depthAll (ns.map PyData.int) = 0
  | [] => rfl
  | n :: ns => by simp only [List.map_cons, PyData.depthAll, PyData.depth, all_ints_depth ns, Nat.max_self]
theorem ints_shaped (ns : List Int) : SeqAt.shaped (dInts ns) = true := by
  have h : PyData.depth (dInts ns) ≤ 64 := by
    show PyData.depthAll (ns.map PyData.int) + 1 ≤ 64
    rw [all_ints_depth]
    decide
  show (PyData.canLayAll0 (ns.map PyData.int) && decide (PyData.depth (dInts ns) ≤ 64)) = true
  rw [all_ints_lay, decide_eq_true h]
  rfl
theorem ints_eqvA : ∀ a b : List Int, PyData.eqvAll (a.map PyData.int) (b.map PyData.int) = decide (a = b)
  | [], [] => rfl
  | [], _ :: _ => by simp [PyData.eqvAll]
  | _ :: _, [] => by simp [PyData.eqvAll]
  | x :: xs, y :: ys => by
    rw [List.map_cons, List.map_cons, PyData.eqvAll, ints_eqvA xs ys]
    show ((x == y) && decide (xs = ys)) = _
    by_cases h : x = y
    · subst h; simp
    · simp [h]
theorem ints_eqv (a b : List Int) : PyData.eqv (dInts a) (dInts b) = decide (a = b) := by
  show PyData.eqvAll _ _ = _
  exact ints_eqvA a b
theorem dp_intsA {K : PySem.W.Frag} {H : Hp} : ∀ ns : List Int, DpAll K H (ns.map V.int) (ns.map PyData.int)
  | [] => .nil
  | n :: ns => .cons (.int n) (dp_intsA ns)
theorem dp_ints {K : PySem.W.Frag} {H : Hp} {a : Addr} {ns : List Int} (h : SqL K H a (ns.map V.int)) : Dp K H (.ref a) (dInts ns) := .lst h (dp_intsA ns)
end Rz

namespace Rz
open PySem PySem.Spec PyProof.Rows L2
/-! ### the class's own special methods -/
section
variable {X : Cx} {k : Nat} {f C a dx : Addr} {fs : List (Str × V)} {fd : FuncData} {ps : List Str} {sp : Sp} {pins : List (Addr × Obj)} {σ : L2.St} {H : Hp} {s : Shared}
/-- the instance as the library's rules want it -/
theorem inst_at (I : Inv X pins σ H s) (e : H a = some (.ins C dx fs)) : ∃ od, PySem.W.InstAt s.heap a (PySem.W.instObj C dx) C (some od) := by
  obtain ⟨mA, O, _⟩ := ins_get I.hok e
  obtain ⟨od, J, _⟩ := O.look
  exact ⟨od, J⟩
/-- the def called somewhere below the running body, nothing leaves it -/
theorem run_below {Q : VK} {us : List Value} {vs : List V} {A : Around} {E' : Value → Shared → Prop} (F : FnOk X.prog X.w X.K X.mg X.base (L2.CX X.prog X.w) k f fd ps sp) (hr : Room k A) (hfr : A.frames = X.A.frames) (hb : Binds X.K fd ps [])
    (I : Inv X pins σ H s) (r : Vals vs us) (h : sp vs H Q E0) : wpAny (model X.prog X.w) A (call (.ref f) us) (EP X pins σ Q) E' s := by
  have z := run_X (E := EN) (X := X.nox) (A := A) (pins := pins) (σ := σ) (Q := Q) F hr hfr hb .nil (atN (X := X.nox) σ) (I.wish _) r (by rw [List.append_nil]; exact h)
  refine wpAny_call (codeAny_mono z fun q s' hq => ?_)
  match q, hq with
  | .error er, hq => exact hq.elim
  | .ok (.ret u), hq =>
    obtain ⟨v, H', J, rv, q⟩ := hq
    exact ⟨v, H', J.unwish, rv, q⟩
  | .ok .next, hq => exact hq.elim
  | .ok .brk, hq => exact hq.elim
  | .ok .cont, hq => exact hq.elim
/-- str(x) by the own __str__ -/
theorem call_strO (M : Meth X.K C "__str__" f) (F : FnOk X.prog X.w X.K X.mg X.base (L2.CX X.prog X.w) k f fd ps sp) (hr : Room (k + 2) X.A) (hb : Binds X.K fd ps []) :
    CallR X (.type "str") (fun xs H Q => ∃ a dx fs, xs = [.ref a] ∧ H a = some (.ins C dx fs) ∧ sp [.ref a] H (fun v H' => (∃ z, v = .str z) ∧ Q v H') E0) := by
  intro pins s σ H xs us Q I r h
  obtain ⟨a, dx, fs, rfl, ea, hq⟩ := h
  obtain ⟨u, rfl, ru⟩ := vals1 r
  obtain rfl : u = Value.ref a := ru
  obtain ⟨od, J⟩ := inst_at I ea
  refine PySem.W.kso_call hr.in1.in1.units0 I.kIn J M.at_ M.fn (wpAny_mono (run_below (vs := [.ref a]) F hr.in1.in1 rfl hb I (.cons rfl .nil) hq) (fun v s' hv => ?_) fun _ _ z => z)
  obtain ⟨x, H', J', rx, ⟨z, rfl⟩, q⟩ := hv
  obtain ⟨t, rfl⟩ := rx
  show EP X pins σ Q _ _
  exact ⟨.str z, H', J', ⟨t, rfl⟩, q⟩
end
end Rz

namespace Rz
open PySem PySem.Spec PyProof.Rows L2
open Sem (wp)
/-! ### list(zip(text, list)) -/
theorem zip_nolen : typeLookup (.type "zip") "__len__" = pure Option.none := am_miss_of_fast (by decide +kernel)
theorem zip_nohint : typeLookup (.type "zip") "__length_hint__" = pure Option.none := am_miss_of_fast (by decide +kernel)
section
variable {prog : Program} {w : World} {A : Around} {E : Value → Shared → Prop} {s : Shared} {zz TI TO T i1 i2 L : Addr} {f1 f2 : List Addr} {n1 n2 i n : Nat} {P1 P2 : Nat → Value → Prop} {S1 S2 : Nat → Heap → Prop} {fl : Bool} {oT : Obj}

/-- next of a zip whose tuple is still out -/
theorem zh_item {Q : Value → Shared → Prop} (Z : ZipSep2 zz TI TO i1 i2 f1 f2) (D1 : Draws prog w A i1 f1 n1 P1 S1) (D2 : Draws prog w A i2 f2 n2 P2 S2)
    (gz : IsZipHeld s.heap zz TI TO T fl) (gT : s.heap.get? T = some oT) (gI : IsTupOf2 s.heap TI (.ref i1) (.ref i2)) (t1 : S1 i s.heap) (t2 : S2 i s.heap) (l1 : i < n1) (l2 : i < n2)
    (hQ : ∀ x y h' tk, P1 i x → P2 i y → IsZipHeld h' zz TI TO T true → S1 (i + 1) h' → S2 (i + 1) h' → IsTupOf2 h' s.heap.objs.size x y → h'.objs.size = s.heap.objs.size + 1 →
      (∀ c o, c ≠ zz → c ≠ i1 → c ≠ i2 → s.heap.get? c = some o → h'.get? c = some o) → Q (.ref s.heap.objs.size) { s with heap := h', toks := tk }) :
    wpAny (model prog w) A (Builtin.«zip.__next__» ⟨[.ref zz], []⟩) (fun fin s' => ∃ v, fin = .done (.ret v) ∧ Q v s') E s := by
  obtain ⟨hp, g, d, tk0, os⟩ := s
  show wpAny _ _ (field (.ref zz) 2 >>= _) _ _ _
  refine wpAny_bind (wpAny_field gz rfl (x := .bool false) rfl ?_)
  show wpAny _ _ (field (.ref zz) 3 >>= _) _ _ _
  refine wpAny_bind (wpAny_field gz rfl (x := .ref TI) rfl ?_)
  refine wpAny_bind (wpAny_seqItems gI rfl ?_)
  show wpAny _ _ (Builtin.SmallTypes.ownedTupleIsFree (.ref zz) >>= _) _ _ _
  refine wpAny_bind (wpAny_tupleHeld_zip gz gT fun h1 gz1 s1 => ?_)
  simp only [Bool.false_eq_true, if_false]
  refine wpAny_bind ?_
  rw [← Array.forIn_toList]
  simp only [List.forIn_cons, List.forIn_nil]
  refine wpAny_bind (wpAny_bind (wpAny_holding ?_))
  show wpAny _ _ (Builtin.SmallTypes.nextOf (.ref i1) >>= _) _ _ ⟨h1, g, d, tk0, os⟩
  refine wpAny_bind (D1.item i _ _ _ l1 (D1.over t1 s1 Z.zf1) fun x h2 tk1 px u1 s2 => wpAny_pure (wpAny_pure ?_))
  replace s2 : Heap.SameBut i1 h1 h2 := s2
  refine wpAny_bind (wpAny_bind (wpAny_holding ?_))
  show wpAny _ _ (Builtin.SmallTypes.nextOf (.ref i2) >>= _) _ _ ⟨h2, g, d, tk1, os⟩
  refine wpAny_bind (D2.item i _ _ _ l2 (D2.over (D2.over t2 s1 Z.zf2) s2 Z.sep1_2) fun y h3 tk2 py u2 s3 => wpAny_pure (wpAny_pure (wpAny_pure ?_)))
  replace s3 : Heap.SameBut i2 h2 h3 := s3
  show wpAny _ _ (newTuple [x, y] >>= _) _ _ ⟨h3, g, d, tk2, os⟩
  refine wpAny_bind (wpAny_newTuple ?_)
  have size3 : h3.objs.size = hp.objs.size := by rw [s3.1, s2.1, s1.1]
  have gz3 : IsZipHeld h3 zz TI TO T true := s3.extBut _ _ Z.zi2 (s2.extBut _ _ Z.zi1 gz1)
  have kk : ∀ c o, c ≠ zz → c ≠ i1 → c ≠ i2 → hp.get? c = some o → h3.get? c = some o := fun c o c1 c2 c3 e => s3.extBut _ _ c3 (s2.extBut _ _ c2 (s1.extBut _ _ c1 e))
  refine wpAny_pure ⟨_, rfl, ?_⟩
  show Q (.ref h3.objs.size) ⟨h3.push { cls := .type "tuple", data := .seq #[x, y] }, g, d, tk2, os⟩
  have new : IsTupOf2 (h3.push { cls := .type "tuple", data := .seq #[x, y] }) h3.objs.size x y := Heap.get?_push_size _ rfl
  have size4 : (h3.push { cls := .type "tuple", data := .seq #[x, y] }).objs.size = h3.objs.size + 1 := Heap.size_push ..
  rw [size3] at new size4 ⊢
  exact hQ x y _ tk2 px py (Heap.get?_push_of_some _ gz3) (D1.frame _ _ _ (D1.over u1 s3 Z.sep2_1) fun b _ o e => Heap.get?_push_of_some _ e) (D2.frame _ _ _ u2 fun b _ o e => Heap.get?_push_of_some _ e) new size4 fun c o c1 c2 c3 e => Heap.get?_push_of_some _ (kk c o c1 c2 c3 e)

theorem zh_end {Q : Fin → Shared → Prop} (Z : ZipSep2 zz TI TO i1 i2 f1 f2) (D1 : Draws prog w A i1 f1 n1 P1 S1) (D2 : Draws prog w A i2 f2 n2 P2 S2)
    (gz : IsZipHeld s.heap zz TI TO T fl) (gT : s.heap.get? T = some oT) (gI : IsTupOf2 s.heap TI (.ref i1) (.ref i2)) (t1 : S1 i s.heap) (t2 : S2 i s.heap) (hn1 : i = n1) 
    (hE : ∀ h' tk e, (∀ c o, c ≠ zz → c ≠ i1 → c ≠ i2 → s.heap.get? c = some o → h'.get? c = some o) → (∃ o, h'.get? e = some o ∧ o.cls = .type "StopIteration") → E (.ref e) { s with heap := h', toks := tk }) :
    wpAny (model prog w) A (Builtin.«zip.__next__» ⟨[.ref zz], []⟩) Q E s := by
  obtain ⟨hp, g, d, tk0, os⟩ := s
  show wpAny _ _ (field (.ref zz) 2 >>= _) _ _ _
  refine wpAny_bind (wpAny_field gz rfl (x := .bool false) rfl ?_)
  show wpAny _ _ (field (.ref zz) 3 >>= _) _ _ _
  refine wpAny_bind (wpAny_field gz rfl (x := .ref TI) rfl ?_)
  refine wpAny_bind (wpAny_seqItems gI rfl ?_)
  show wpAny _ _ (Builtin.SmallTypes.ownedTupleIsFree (.ref zz) >>= _) _ _ _
  refine wpAny_bind (wpAny_tupleHeld_zip gz gT fun h1 gz1 s1 => ?_)
  simp only [Bool.false_eq_true, if_false]
  refine wpAny_bind ?_
  rw [← Array.forIn_toList]
  simp only [List.forIn_cons, List.forIn_nil]
  refine wpAny_bind (wpAny_bind (wpAny_holding ?_))
  show wpAny _ _ (Builtin.SmallTypes.nextOf (.ref i1) >>= _) _ _ ⟨h1, g, d, tk0, os⟩
  subst hn1
  refine wpAny_bind (D1.done ⟨h1, g, d, tk0, os⟩ _ _ (D1.over t1 s1 Z.zf1) fun q e hq he => ?_)
  exact hE q tk0 e (fun c o c1 c2 _ x => hq _ _ c2 (s1.extBut _ _ c1 x)) he

/-- such a zip while a list at L is filled from it -/
def ZS (zz TI TO i1 i2 L : Addr) (S1 S2 : Nat → Heap → Prop) (i : Nat) (h : Heap) : Prop := IsTupOf2 h TI (.ref i1) (.ref i2) ∧ S1 i h ∧ S2 i h ∧
  ((IsZip h zz TI TO .none ∧ ∃ a b, IsTupOf2 h TO a b) ∨ ∃ T f o, IsZipHeld h zz TI TO T f ∧ h.get? T = some o ∧ T ≠ zz ∧ T ≠ i1 ∧ T ≠ i2 ∧ T ≠ L)
theorem zs_item {Q : Option Value → Shared → Prop} (Z : ZipSep2 zz TI TO i1 i2 f1 f2) (D1 : Draws prog w A.in1 i1 f1 n1 P1 S1) (D2 : Draws prog w A.in1 i2 f2 n2 P2 S2)
    (st : ZS zz TI TO i1 i2 L S1 S2 i s.heap) (hL : L < s.heap.objs.size) (l1 : i < n1) (l2 : i < n2)
    (hQ : ∀ x y h' tk, P1 i x → P2 i y → ZS zz TI TO i1 i2 L S1 S2 (i + 1) h' → IsTupOf2 h' s.heap.objs.size x y → h'.objs.size = s.heap.objs.size + 1 →
      (∀ c o, c ≠ zz → c ≠ TO → c ≠ i1 → c ≠ i2 → s.heap.get? c = some o → h'.get? c = some o) → Q (some (.ref s.heap.objs.size)) { s with heap := h', toks := tk }) :
    wpAny (model prog w) A (pyNext (.ref zz)) Q E s := by
  obtain ⟨gI, t1, t2, st⟩ := st
  have o1 : s.heap.objs.size ≠ i1 := let ⟨_, e⟩ := D1.live _ _ t1; Nat.ne_of_gt (Heap.lt_size e)
  have o2 : s.heap.objs.size ≠ i2 := let ⟨_, e⟩ := D2.live _ _ t2; Nat.ne_of_gt (Heap.lt_size e)
  rcases st with ⟨gz, a, b, gO⟩ | ⟨T, f, o, gz, gT, r1, r2, r3, r4⟩
  · refine wpAny_pyNext_zipD2_item Z D1 D2 gz gI gO t1 t2 l1 l2 fun x y h' tk px py b1 b2 u1 u2 new sz kk => ?_
    exact hQ x y h' tk px py ⟨kk _ _ Z.TIz Z.TITO Z.TIi1 Z.TIi2 gI, u1, u2, .inr ⟨_, false, _, b1, new, Nat.ne_of_gt (Heap.lt_size gz), o1, o2, Nat.ne_of_gt hL⟩⟩ new sz kk
  · have ty : s.TypeIs (.ref zz) "zip" := ⟨_, gz, rfl⟩
    unfold pyNext
    exact wpAny_bind (wpAny_attempt (wpAny_callSpecial?_slot (name := Str.ofString "__next__") ty F.slot_zip_next (wpAny_call_entry F.slot_zip_next ty F.entry_zip_next
      (zh_item Z D1 D2 gz gT gI t1 t2 l1 l2 fun x y h' tk px py b1 u1 u2 new sz kk => wpAny_pure
        (hQ x y h' tk px py ⟨kk _ _ Z.TIz Z.TIi1 Z.TIi2 gI, u1, u2, .inr ⟨T, true, o, b1, kk _ _ r1 r2 r3 gT, r1, r2, r3, r4⟩⟩ new sz fun c o c1 _ c3 c4 e => kk c o c1 c3 c4 e)) (F.args_zip_next_1 _))))
theorem zs_end {Q : Option Value → Shared → Prop} (Z : ZipSep2 zz TI TO i1 i2 f1 f2) (D1 : Draws prog w A.in1 i1 f1 n1 P1 S1) (D2 : Draws prog w A.in1 i2 f2 n2 P2 S2)
    (st : ZS zz TI TO i1 i2 L S1 S2 i s.heap) (hn : i = n1) (h12 : n1 ≤ n2)
    (hQ : ∀ h' tk, (∀ c o, c ≠ zz → c ≠ TO → c ≠ i1 → c ≠ i2 → s.heap.get? c = some o → h'.get? c = some o) → Q Option.none { s with heap := h', toks := tk }) : wpAny (model prog w) A (pyNext (.ref zz)) Q E s := by
  obtain ⟨gI, t1, t2, st⟩ := st
  rcases st with ⟨gz, a, b, gO⟩ | ⟨T, f, o, gz, gT, r1, r2, r3, r4⟩
  · exact wpAny_pyNext_zipD2_end Z D1 D2 gz gI gO t1 t2 (by omega) (by omega) (.inl hn) fun h' tk kk => hQ h' tk kk
  · have ty : s.TypeIs (.ref zz) "zip" := ⟨_, gz, rfl⟩
    unfold pyNext
    refine wpAny_bind (wpAny_attempt (wpAny_callSpecial?_slot (name := Str.ofString "__next__") ty F.slot_zip_next (wpAny_call_entry F.slot_zip_next ty F.entry_zip_next
      (zh_end Z D1 D2 gz gT gI t1 t2 hn fun h' tk e kk he => ?_) (F.args_zip_next_1 _))))
    obtain ⟨oe, h1, h2⟩ := he
    refine wpAny_bind (wpAny_isInstance (T := "StopIteration") (b := true) ⟨oe, h1, h2⟩ isSubtype_stop ?_)
    exact wpAny_pure (hQ _ _ fun c o c1 _ c3 c4 e => kk c o c1 c3 c4 e)
theorem ZS.keep {h h' : Heap} (st : ZS zz TI TO i1 i2 L S1 S2 i h) (D1 : Draws prog w A i1 f1 n1 P1 S1) (D2 : Draws prog w A i2 f2 n2 P2 S2) (kk : ∀ b o, b ≠ L → h.get? b = some o → h'.get? b = some o) (n0 : zz ≠ L) (nI : TI ≠ L) (nO : TO ≠ L) (nf1 : L ∉ f1) (nf2 : L ∉ f2) :
    ZS zz TI TO i1 i2 L S1 S2 i h' := by
  obtain ⟨gI, t1, t2, st⟩ := st
  refine ⟨kk _ _ nI gI, D1.frame _ _ _ t1 fun b hb o e => kk b o (fun z => nf1 (z ▸ hb)) e, D2.frame _ _ _ t2 fun b hb o e => kk b o (fun z => nf2 (z ▸ hb)) e, ?_⟩
  rcases st with ⟨gz, a, b, gO⟩ | ⟨T, f, o, gz, gT, r1, r2, r3, r4⟩
  · exact .inl ⟨kk _ _ n0 gz, a, b, kk _ _ nO gO⟩
  · exact .inr ⟨T, f, o, kk _ _ n0 gz, kk _ _ r4 gT, r1, r2, r3, r4⟩

/-- the tuples that came -/
structure ZG (P1 P2 : Nat → Value → Prop) (lo : Addr) (h : Heap) (as : List Addr) : Prop where
  rise : as.Pairwise (· < ·)
  over : ∀ a ∈ as, lo < a
  pairs : ∀ (j : Nat) (a : Addr), as[j]? = some a → ∃ x y, P1 j x ∧ P2 j y ∧ IsTupOf2 h a x y
theorem zg_loop {R : Result → Shared → Prop} {base : Heap} (Z : ZipSep2 zz TI TO i1 i2 f1 f2) (D1 : Draws prog w A.in1.in1 i1 f1 n1 P1 S1) (D2 : Draws prog w A.in1.in1 i2 f2 n2 P2 S2) (h12 : n1 ≤ n2)
    (n0 : zz < L) (nI : TI < L) (nO : TO < L) (m1 : i1 < L) (m2 : i2 < L) (nf1 : L ∉ f1) (nf2 : L ∉ f2) (hn : n1 ≤ sizeLine) (res : Value)
    (hR : ∀ h' tk acc c as, (∀ b o, b ≠ L → b ≠ zz → b ≠ TO → b ≠ i1 → b ≠ i2 → base.get? b = some o → h'.get? b = some o) → h'.get? L = some { cls := .type "list", dict := Option.none, data := .seq acc c, slots := #[] } → as.length = n1 → ZG P1 P2 L h' as →
      acc.toList = as.map Value.ref → R (.ok (.ret res)) { s with heap := h', toks := tk }) :
    ∀ (k i : Nat) (h : Heap) (tk c : Nat) (acc : Array Value) (as : List Addr), n1 - i = k → i ≤ n1 → ZS zz TI TO i1 i2 L S1 S2 i h → (∀ b o, b ≠ L → b ≠ zz → b ≠ TO → b ≠ i1 → b ≠ i2 → base.get? b = some o → h.get? b = some o) →
      h.get? L = some { cls := .type "list", dict := Option.none, data := .seq acc c, slots := #[] } → acc.toList = as.map Value.ref → as.length = i → ZG P1 P2 L h as →
      codeAny (model prog w) A (.builtin "list.extend.loop" ⟨[.ref L, .ref zz, res], []⟩) R { s with heap := h, toks := tk } := by
  intro k
  induction k with
  | zero =>
    intro i h tk c acc as hk hi st keep hL hacc hal hG
    refine codeAny_builtin F.entry_extend_loop ?_
    rw [Around.under_plainId F.plain_extend_loop _]
    show wpAny _ A.in1 (pyNext (.ref zz) >>= _) _ _ _
    refine wpAny_bind (zs_end (s := { s with heap := h, toks := tk }) Z D1 D2 st (by omega) h12 fun h' tk' kk => ?_)
    refine wpAny_pure (hR h' tk' acc c as (fun b o h1 h2 h3 h4 h5 e => kk b o h2 h3 h4 h5 (keep b o h1 h2 h3 h4 h5 e)) (kk L _ (Nat.ne_of_gt n0) (Nat.ne_of_gt nO) (Nat.ne_of_gt m1) (Nat.ne_of_gt m2) hL) (by omega) ⟨hG.rise, hG.over, fun j a hj => ?_⟩ hacc)
    obtain ⟨x, y, px, py, e⟩ := hG.pairs j a hj
    have hb := hG.over a (List.mem_of_getElem? hj)
    exact ⟨x, y, px, py, kk a _ (Nat.ne_of_gt (Nat.lt_trans n0 hb)) (Nat.ne_of_gt (Nat.lt_trans nO hb)) (Nat.ne_of_gt (Nat.lt_trans m1 hb)) (Nat.ne_of_gt (Nat.lt_trans m2 hb)) e⟩
  | succ k ih =>
    intro i h tk c acc as hk hi st keep hL hacc hal hG
    have hlt : i < n1 := by omega
    have size : acc.size = i := by rw [← Array.length_toList, hacc, List.length_map, hal]
    have lL : L < h.objs.size := Heap.lt_size hL
    refine codeAny_builtin F.entry_extend_loop ?_
    rw [Around.under_plainId F.plain_extend_loop _]
    show wpAny _ A.in1 (pyNext (.ref zz) >>= _) _ _ _
    refine wpAny_bind (zs_item (s := { s with heap := h, toks := tk }) Z D1 D2 st lL hlt (by omega) fun x y h' tk' px py st' new sz kk => ?_)
    dsimp only at new sz kk ⊢
    have hL' := kk L _ (Nat.ne_of_gt n0) (Nat.ne_of_gt nO) (Nat.ne_of_gt m1) (Nat.ne_of_gt m2) hL
    have up : ∀ b o, b ≠ L → h'.get? b = some o → (h'.update L (Obj.mapSeq (·.push (Value.ref h.objs.size)))).get? b = some o := fun b o hb e => (Heap.get?_update_other _ _ (Ne.symm hb)).trans e
    show wpAny _ A.in1 (updateSeq L (·.push (Value.ref h.objs.size)) >>= _) _ _ _
    refine wpAny_bind ?_
    refine wpAny_updateSeq hL' rfl (wpAny_pure ⟨plainId_quiet F.plain_extend_loop _, ih (i + 1) _ tk' _ (acc.push (Value.ref h.objs.size)) (as ++ [h.objs.size]) (by omega) hlt (st'.keep D1 D2 up (Nat.ne_of_lt n0) (Nat.ne_of_lt nI) (Nat.ne_of_lt nO) nf1 nf2)
      (fun b o h1 h2 h3 h4 h5 e => up b o h1 (kk b o h2 h3 h4 h5 (keep b o h1 h2 h3 h4 h5 e))) (Heap.get?_update_self _ hL' rfl) (by rw [Array.toList_push, hacc, List.map_append]; rfl) (by rw [List.length_append, hal]; rfl) ⟨?_, ?_, ?_⟩⟩) (by rw [size]; omega) (by show (acc.push (Value.ref h.objs.size)).size ≤ sizeLine + 1; rw [Array.size_push, size]; omega)
    · refine List.pairwise_append.mpr ⟨hG.rise, List.pairwise_singleton _ _, fun a ha b hb => ?_⟩
      obtain ⟨j, hj⟩ := List.mem_iff_getElem?.mp ha
      obtain ⟨_, _, _, _, e⟩ := hG.pairs j a hj
      rw [List.mem_singleton.mp hb]
      exact Heap.lt_size e
    · intro a ha
      rcases List.mem_append.mp ha with ha | ha
      · exact hG.over a ha
      · rw [List.mem_singleton.mp ha]; exact lL
    · intro j b hj
      rcases Nat.lt_trichotomy j as.length with h1 | h1 | h1
      · rw [List.getElem?_append_left h1] at hj
        obtain ⟨x', y', q1, q2, q3⟩ := hG.pairs j b hj
        have hb := hG.over b (List.mem_of_getElem? hj)
        exact ⟨x', y', q1, q2, up b _ (Nat.ne_of_gt hb) (kk b _ (Nat.ne_of_gt (Nat.lt_trans n0 hb)) (Nat.ne_of_gt (Nat.lt_trans nO hb)) (Nat.ne_of_gt (Nat.lt_trans m1 hb)) (Nat.ne_of_gt (Nat.lt_trans m2 hb)) q3)⟩
      · subst h1
        have hb : h.objs.size = b := by simpa using hj
        subst hb
        exact ⟨x, y, by rw [hal]; exact px, by rw [hal]; exact py, up _ _ (Nat.ne_of_gt lL) new⟩
      · rw [List.getElem?_eq_none (by rw [List.length_append, List.length_singleton]; omega)] at hj
        cases hj
theorem zg_call {Q : Value → Shared → Prop} (Z : ZipSep2 zz TI TO i1 i2 f1 f2) (D1 : Draws prog w A.in1.in1.in1 i1 f1 n1 P1 S1) (D2 : Draws prog w A.in1.in1.in1 i2 f2 n2 P2 S2) (h12 : n1 ≤ n2) (hn : n1 ≤ sizeLine)
    (gz : IsZip s.heap zz TI TO .none) (gI : IsTupOf2 s.heap TI (.ref i1) (.ref i2)) {a b : Value} (gO : IsTupOf2 s.heap TO a b) (t1 : S1 0 s.heap) (t2 : S2 0 s.heap) (nf1 : ∀ c ∈ f1, c < s.heap.objs.size) (nf2 : ∀ c ∈ f2, c < s.heap.objs.size)
    (hQ : ∀ h' tk acc c as, (∀ b o, b ≠ zz → b ≠ TO → b ≠ i1 → b ≠ i2 → s.heap.get? b = some o → h'.get? b = some o) → h'.get? s.heap.objs.size = some { cls := .type "list", dict := Option.none, data := .seq acc c, slots := #[] } → as.length = n1 → ZG P1 P2 s.heap.objs.size h' as →
      acc.toList = as.map Value.ref → Q (.ref s.heap.objs.size) { s with heap := h', toks := tk }) :
    wpAny (model prog w) A (call (.type "list") [.ref zz]) Q E s := by
  have q1 : s.heap.objs.size ∉ f1 := fun z => Nat.lt_irrefl _ (nf1 _ z)
  have q2 : s.heap.objs.size ∉ f2 := fun z => Nat.lt_irrefl _ (nf2 _ z)
  have lz := Heap.lt_size gz
  have lI := Heap.lt_size gI
  have lO := Heap.lt_size gO
  have m1 := nf1 _ Z.mem1
  have m2 := nf2 _ Z.mem2
  refine callType_codes (Q₁ := fun obj s₁ => obj = .ref s.heap.objs.size ∧ s₁ = { s with heap := s.heap.push { cls := .type "list", data := .seq #[] } }) F.called_list (F.typeCall_list_1 (.ref zz)) F.entry_list_init
    (code_list_new _ ⟨rfl, rfl⟩) fun obj s₁ h₁ => ?_
  obtain ⟨rfl, rfl⟩ := h₁
  have hS : (s.heap.push { cls := .type "list", data := .seq #[] }).get? s.heap.objs.size = some { cls := .type "list", data := .seq #[] } := Heap.get?_push_size _ rfl
  refine ⟨⟨_, hS, rfl⟩, F.args_list_init_2 _ (.ref zz), ?_⟩
  generalize hL : s.heap.objs.size = L at *
  have st0 : ZS zz TI TO i1 i2 L S1 S2 0 (s.heap.push { cls := .type "list", data := .seq #[] }) := ⟨Heap.get?_push_of_some _ gI, D1.frame _ _ _ t1 fun b _ o e => Heap.get?_push_of_some _ e, D2.frame _ _ _ t2 fun b _ o e => Heap.get?_push_of_some _ e, .inl ⟨Heap.get?_push_of_some _ gz, a, b, Heap.get?_push_of_some _ gO⟩⟩
  have k0 : ∀ b o, s.heap.get? b = some o → (s.heap.push { cls := .type "list", data := .seq #[] }).get? b = some o := fun b o e => Heap.get?_push_of_some _ e
  generalize (s.heap.push { cls := .type "list", data := .seq #[] }) = h0 at hS st0 k0
  show wpAny _ A.in1.in1 (do let old ← Builtin.List.listItems (.ref L); Builtin.List.listUpdate (.ref L) (fun _ => #[]); letGo old.toList.reverse; Builtin.List.listExtendWith (.ref L) (.ref zz) .none) _ _ _
  refine wpAny_bind ?_
  unfold Builtin.List.listItems
  refine wpAny_bind (wpAny_seqItems hS rfl (wpAny_pure ?_))
  show wpAny _ A.in1.in1 (updateSeq L (fun _ => #[]) >>= fun _ => letGo (#[] : Array Value).toList.reverse >>= fun _ => Builtin.List.listExtendWith (.ref L) (.ref zz) .none) _ _ _
  refine wpAny_bind (wpAny_updateSeq hS rfl ?_)
  have g2 := Heap.get?_update_self (Obj.mapSeq (fun _ => (#[] : Array Value))) hS rfl
  have kk2 : ∀ b o, b ≠ L → h0.get? b = some o → (h0.update L (Obj.mapSeq (fun _ => (#[] : Array Value)))).get? b = some o := fun b o hb e => (Heap.get?_update_other _ _ (Ne.symm hb)).trans e
  have st2 := st0.keep D1 D2 kk2 (Nat.ne_of_lt lz) (Nat.ne_of_lt lI) (Nat.ne_of_lt lO) q1 q2
  refine wpAny_bind (wpAny_letGo ?_)
  dsimp only at g2 kk2 st2 ⊢
  generalize (h0.update L (Obj.mapSeq (fun _ => (#[] : Array Value)))) = hh2 at g2 kk2 st2 ⊢
  have gz2 : IsZip hh2 zz TI TO .none := kk2 _ _ (Nat.ne_of_lt lz) (k0 _ _ gz)
  have ty2 : Shared.TypeIs { s with heap := hh2 } (.ref zz) "zip" := ⟨_, gz2, rfl⟩
  unfold Builtin.List.listExtendWith
  refine wpAny_bind (wpAny_typeOf ty2 ?_)
  have c1 : Builtin.List.listSameRef (.ref L) (.ref zz) = false := by simp [Builtin.List.listSameRef, Nat.ne_of_gt lz]
  have c2 : (Value.type "zip" == Value.type "list") = false := by decide
  have c3 : (Value.type "zip" == Value.type "tuple") = false := by decide
  simp only [c1, c2, c3, Bool.or_false, Bool.false_eq_true, if_false]
  refine wpAny_bind (wpAny_pyIter_zip gz2 ?_)
  refine wpAny_bind (wpAny_holding ?_)
  unfold Builtin.List.listLengthHint
  refine wpAny_bind (wpAny_specialOf ty2 zip_nolen ?_)
  show wpAny _ A.in1.in1 (specialOf (Value.ref zz) (Str.ofString "__length_hint__") >>= _) _ _ _
  refine wpAny_bind (wpAny_specialOf ty2 zip_nohint ?_)
  refine wpAny_pure ?_
  show wpAny _ A.in1.in1 (rule "list.extend.makes-room" >>= fun _ => Builtin.List.listTouch (.ref L) >>= fun _ =>
    again (.builtin "list.extend.loop" ⟨[.ref L, .ref zz, .none], []⟩)) _ _ _
  refine wpAny_bind (wpAny_rule ?_)
  refine wpAny_bind ?_
  show wpAny _ A.in1.in1 (updateSeq L (·.push .none) >>= fun _ => updateSeq L (·.pop)) _ _ _
  refine wpAny_bind (wpAny_updateSeq g2 rfl ?_)
  have g3 := Heap.get?_update_self (Obj.mapSeq (·.push Value.none)) g2 rfl
  refine wpAny_updateSeq (hz := by seq_fits) g3 rfl ?_
  have g4 := Heap.get?_update_self (Obj.mapSeq (·.pop)) g3 rfl
  have kk4 : ∀ b o, b ≠ L → hh2.get? b = some o → ((hh2.update L (Obj.mapSeq (·.push Value.none))).update L (Obj.mapSeq (·.pop))).get? b = some o :=
    fun b o hb e => (Heap.get?_update_other _ _ (Ne.symm hb)).trans ((Heap.get?_update_other _ _ (Ne.symm hb)).trans e)
  have lb : ∀ b o, s.heap.get? b = some o → b ≠ L := fun b o e => by rw [← hL]; exact Nat.ne_of_lt (Heap.lt_size e)
  refine wpAny_pure ⟨plainId_quiet F.plain_extend_loop _, ?_⟩
  refine zg_loop (s := { s with heap := _ }) (base := s.heap) Z D1 D2 h12 lz lI lO m1 m2 q1 q2 hn .none (fun h' tk acc c as kk hl hal hG hacc => ⟨rfl, hQ h' tk acc c as (fun b o h2 h3 h4 h5 e => kk b o (lb b o e) h2 h3 h4 h5 e) hl hal hG hacc⟩)
    n1 0 _ _ _ #[] [] (by omega) (Nat.zero_le _) (st2.keep D1 D2 kk4 (Nat.ne_of_lt lz) (Nat.ne_of_lt lI) (Nat.ne_of_lt lO) q1 q2) (fun b o h1 _ _ _ _ e => kk4 b o h1 (kk2 b o h1 (k0 b o e))) g4 rfl rfl ⟨List.Pairwise.nil, (fun _ ha => nomatch ha), (fun j a hj => by simp at hj)⟩
end
section
variable {X : Cx} {e e2 : Expr} {ta : TA} {p p2 cpos pos : Pos}
theorem vals_back : ∀ {xs : List V} {us : List Value} {i : Nat} {u : Value}, Paired RelV xs us → us[i]? = some u → ∃ x, xs[i]? = some x ∧ RelV x u
  | _, _, i, u, .nil, h => by cases h
  | _, _, 0, u, .cons r t, h => by
    have e := Option.some.inj h
    subst e
    exact ⟨_, rfl, r⟩
  | _, _, i + 1, u, .cons r t, h => vals_back (i := i) t (by simpa using h)
theorem sep5 (n l : Nat) (h : l < n) : ZipSep2 (n + 4) (n + 2) (n + 3) n (n + 1) [n] [n + 1, l] := by
  have ne : ∀ a b : Nat, a < b → ¬ (a : Addr) = b := fun a b h z => Nat.ne_of_lt h z
  have en : ∀ a b : Nat, b < a → ¬ (a : Addr) = b := fun a b h z => Nat.ne_of_gt h z
  have no1 : ∀ a b : Nat, (a < b ∨ b < a) → (a : Addr) ∉ [(b : Addr)] := fun a b h z => by
    have e : a = b := List.mem_singleton.mp z
    omega
  have no2 : ∀ a b c : Nat, (a < b ∨ b < a) → (a < c ∨ c < a) → (a : Addr) ∉ [(b : Addr), (c : Addr)] := fun a b c h1 h2 z => by
    rcases List.mem_cons.mp z with e | e
    · have e : a = b := e
      omega
    · have e : a = c := List.mem_singleton.mp e
      omega
  exact ⟨ne _ _ (by omega), ne _ _ (by omega), ne _ _ (by omega), en _ _ (by omega), List.mem_cons_self, no1 _ _ (by omega), no1 _ _ (by omega), en _ _ (by omega), List.mem_cons_self, no2 _ _ _ (by omega) (by omega), no2 _ _ _ (by omega) (by omega), no2 _ _ _ (by omega) (by omega), no1 _ _ (by omega)⟩
/-- the pairs of the signs of x and of ys -/
def zkv (x : Str) (ys : List V) : List (Key × V) := (x.cps.toList.zip ys).map fun q => (Sum.inr ⟨#[q.1]⟩, q.2)
theorem zkv_len {x : Str} {ys : List V} (h : x.length = ys.length) : (zkv x ys).length = x.length := by
  unfold zkv
  rw [List.length_map, List.length_zip]
  show min x.length ys.length = _
  omega
theorem zkv_at {x : Str} {ys : List V} {j c : Nat} {y : V} (h1 : x.cps[j]? = some c) (h2 : ys[j]? = some y) : (zkv x ys)[j]? = some (Sum.inr ⟨#[c]⟩, y) := by
  unfold zkv
  rw [List.getElem?_map, List.zip_eq_zipWith, List.getElem?_zipWith, Array.getElem?_toList, h1, h2]
  rfl
theorem zip_laid {pins : List (Addr × Obj)} {σ : L2.St} {H : Hp} {s : Shared} {h' : Heap} {tk : Nat} {kvs : List (Key × V)} {acc : Array Value} {c : Nat} {L : Addr} {as : List Addr} (I : Inv X pins σ H s) (hL : s.heap.objs.size ≤ L) (hz : kvs.length ≤ sizeLine)
    (kk : ∀ b o, s.heap.get? b = some o → h'.get? b = some o) (eL : h'.get? L = some { cls := .type "list", dict := none, data := .seq acc c, slots := #[] }) (hl : as.length = kvs.length) (rise : as.Pairwise (· < ·)) (over : ∀ a ∈ as, L < a)
    (prs : ∀ (j : Nat) (a : Addr), as[j]? = some a → ∃ q x y, kvs[j]? = some q ∧ RelV (kV q.1) x ∧ RelV q.2 y ∧ IsTupOf2 h' a x y) (hacc : acc.toList = as.map Value.ref) :
    ∃ H' : Hp, (∀ b o, H b = some o → H' b = some o) ∧ H L = none ∧ (∀ t ∈ as, H t = none) ∧ L ∉ as ∧ H' L = some (.lst (as.map V.ref)) ∧ Paired (fun (t : Addr) (q : Key × V) => H' t = some (.tup [kV q.1, q.2])) as kvs ∧ Inv X pins σ H' { s with heap := h', toks := tk } := by
  have nL : L ∉ as := fun z => Nat.lt_irrefl _ (over _ z)
  have nd : as.Nodup := List.Pairwise.imp (fun {a b} (h : a < b) => Nat.ne_of_lt h) rise
  have newT : ∀ t ∈ as, H t = none := fun t ht => I.hok.fresh (Nat.le_trans hL (Nat.le_of_lt (over t ht)))
  have newL : H L = none := I.hok.fresh hL
  have laid := LiI.putT_at as kvs (upd H L (.lst (as.map V.ref))) hl nd
  have off : ∀ b, b ∉ as → b ≠ L → LiI.putT (upd H L (.lst (as.map V.ref))) as kvs b = H b := fun b q1 q2 => by rw [LiI.putT_off as kvs _ q1, upd_ne q2]
  have low : ∀ b o, s.heap.get? b = some o → b ∉ as ∧ b ≠ L := fun b o e => ⟨fun z => absurd (Heap.lt_size e) (Nat.not_lt.mpr (Nat.le_trans hL (Nat.le_of_lt (over b z)))), fun z => absurd (Heap.lt_size e) (Nat.not_lt.mpr (z ▸ hL))⟩
  have same : ∀ b u, H b = some u → (LiI.putT (upd H L (.lst (as.map V.ref))) as kvs) b = some u := fun b u e => by
    rw [off b (fun z => by rw [newT b z] at e; cases e) (fun z => by rw [z, newL] at e; cases e), e]
  have atL : LiI.putT (upd H L (.lst (as.map V.ref))) as kvs L = some (.lst (as.map V.ref)) := by rw [LiI.putT_off as kvs _ nL, upd_same]
  refine ⟨LiI.putT (upd H L (.lst (as.map V.ref))) as kvs, same, newL, newT, nL, atL, laid, ?_⟩
  refine I.call' (ch := []) rfl ⟨fun b o q _ _ _ => kk b o q, fun b o q _ _ _ => ⟨o.slots, kk b o q⟩, fun b o q n _ => ?_, fun b o q _ => ⟨o, kk b o q⟩, fun b xs q => same b _ q, fun b o u q => same b _ q, fun b ps q => ⟨#[], by rw [same b _ q]; simp⟩⟩ (fun b u q => ?_) I.bare fun b z => by simp at z
  · obtain ⟨z1, z2⟩ := low b o q
    rw [off b z1 z2, n]
  · by_cases hb : b ∈ as
    · obtain ⟨j, pk, e1, e2, e3⟩ := LiI.paired_ix laid hb
      rw [e3] at q
      cases q
      obtain ⟨pq, x, y, g1, g2, g3, g4⟩ := prs j b e1
      rw [e2] at g1
      cases g1
      exact ⟨by show 2 ≤ sizeLine; decide, [x, y], .cons g2 (.cons g3 .nil), ⟨_, g4, rfl, _, rfl⟩⟩
    · by_cases hb2 : b = L
      · rw [hb2] at q ⊢
        rw [atL] at q
        cases q
        refine ⟨by rw [List.length_map, hl]; exact hz, acc.toList, c, by rw [hacc]; exact LiI.vals_refs as, ?_⟩
        rw [Array.toArray_toList]
        exact eL
      · rw [off b hb hb2] at q
        exact (I.hok b u q).stay (fun d v _ y => kk d v y) (fun d y => same d _ y) fun d xs y => same d _ y
def rZipL (K : PySem.W.Frag) : List V → Hp → VK → Prop := fun vs H Q => ∃ (x : Str) (l : Addr) (ys : List V), vs = [.str x, .ref l] ∧ SqL K H l ys ∧ x.length = ys.length ∧ x.length ≤ sizeLine ∧
  ∀ (H' : Hp) (q : Addr) (ts : List Addr), Same H H' → H q = none → (∀ t ∈ ts, H t = none) → q ∉ ts → H' q = some (.lst (ts.map V.ref)) → Paired (fun (t : Addr) (u : Key × V) => H' t = some (.tup [kV u.1, u.2])) ts (zkv x ys) → Q (.ref q) H'
def tLstZ (K : PySem.W.Frag) (ta : TA) : TE := fun σ H Q => ta σ H fun vs H1 => rZipL K vs H1 Q
/-- list(zip(text, list)) -/
theorem pe_listZip (hc : X.calm = true) (ha : PA X [e, e2] ta) (hg : Gl X "list") (hm : X.mg "list" = none) (hv : bootBuiltins "list" = some (.type "list")) (hg2 : Gl X "zip") (hm2 : X.mg "zip" = none)
    (hs : starEach [e, e2] X.env = (false, eval e X.env) :: starEach [e2] X.env := by rfl) (hpl : (backTo cpos (starEach [e2] X.env)).any (·.1) = false := by rfl)
    (na : starEach [.Call (.Name "zip" p2) [e, e2] [] cpos] X.env = (false, eval (.Call (.Name "zip" p2) [e, e2] [] cpos) X.env) :: starEach [] X.env := by rfl) :
    PE X (.Call (.Name "list" p) [.Call (.Name "zip" p2) [e, e2] [] cpos] [] pos) (tLstZ X.K ta) := by
  refine ⟨fun pins s σ H Q I h => ?_⟩
  refine Call_ (ld_blt I hg hm hv ?_)
  refine PyProof.Rows.callWith_type1 (PyProof.Rows.args_cons ?_ na) na rfl
  refine Call_ (ld_blt I hg2 hm2 PyProof.Rows.boot_zip (PyProof.Rows.callWith_type1 (thn (ha.run cpos pins s σ H _ I h) fun us s1 ⟨vs, H1, I1, r1, q1⟩ => ?_) hs hpl))
  obtain ⟨x, l, ys, rfl, hq, hxy, hxz, q⟩ := q1
  cases r1 with
  | cons r rr =>
    cases rr with
    | cons r' rr =>
      cases rr
      obtain ⟨t, rfl⟩ := r
      cases r'
      obtain ⟨its, rv, p1, hiz⟩ := I1.list hq
      have ll : l < s1.heap.objs.size := p1.lt
      have hlen : its.toArray.size = x.cps.size := by
        rw [List.size_toArray, ← rv.length]
        exact hxy.symm
      have D0 : (s1.heap.objs.size : Nat) < s1.heap.objs.size + 1 := Nat.lt_succ_self _
      have hh : X.A.in1.in1.in1.handled = none := I1.ok.hd hc
      refine zip_begins2 (begins_text x t) (begins_list l its.toArray) trivial p1.isList fun h' gz gI gO g1 g2 size kk => PyProof.Rows.args_nil ?_
      have Z := sep5 s1.heap.objs.size l ll
      refine zg_call (n1 := x.cps.size) (n2 := its.toArray.size) (P1 := fun i v => ∃ c u, x.cps[i]? = some c ∧ v = .str ⟨#[c]⟩ u) (P2 := fun i v => its.toArray[i]? = some v) (S1 := fun i h => h.IsStrIter s1.heap.objs.size (strIterType x) x t i) (S2 := fun i h => h.IsListIter (s1.heap.objs.size + 1) l i ∧ h.IsList l its.toArray)
        Z (Draws.text hh _ x t) (Draws.list hh _ l (Nat.ne_of_lt (Nat.lt_succ_of_lt ll)) its.toArray) (by omega) hxz gz gI gO ⟨_, g1, rfl, rfl⟩ ⟨⟨_, g2, rfl, rfl⟩, p1.isList.at fun o e => kk l o e⟩ ?_ ?_ ?_
      · intro c hc
        have e : c = s1.heap.objs.size := by simpa using hc
        subst e
        show _ < h'.objs.size
        omega
      · intro c hc
        show (c : Nat) < h'.objs.size
        have z : c = s1.heap.objs.size + 1 ∨ c = l := by simpa using hc
        have ll' : (l : Nat) < s1.heap.objs.size := ll
        rcases z with z | z
        · rw [size, z]
          exact Nat.add_lt_add_left (by decide) _
        · rw [size, z]
          exact Nat.lt_of_lt_of_le ll' (Nat.le_add_right _ _)
      · intro h2 tk acc c as kp eL hal hG hacc
        dsimp only at kp eL hG ⊢
        have lows : ∀ b o, s1.heap.get? b = some o → h2.get? b = some o := fun b o e => by
          have hb : (b : Nat) < s1.heap.objs.size := Heap.lt_size e
          have far : ∀ k : Nat, b ≠ s1.heap.objs.size + k := fun k z => Nat.ne_of_lt (Nat.lt_of_lt_of_le hb (Nat.le_add_right _ k)) z
          exact kp b o (far 4) (far 3) (far 0) (far 1) (kk b o e)
        obtain ⟨H', k1, k2, k3, k4, k5, k6, J⟩ := zip_laid (tk := tk) (kvs := zkv x ys) I1 (L := h'.objs.size) (by rw [size]; exact Nat.le_add_right _ _) (by rw [zkv_len hxy]; exact hxz) lows eL (by rw [zkv_len hxy]; exact hal) hG.rise hG.over (fun j a hj => by
          obtain ⟨u, v, ⟨cc, uu, e1, e2⟩, e3, e4⟩ := hG.pairs j a hj
          subst e2
          have e3' : its[j]? = some v := by simpa using e3
          obtain ⟨y, hy, ry⟩ := vals_back rv e3'
          exact ⟨_, _, _, zkv_at e1 hy, ⟨_, rfl⟩, ry, e4⟩) hacc
        exact ⟨.ref _, H', J, rfl, q H' _ as k1 k2 k3 k4 k5 k6⟩
end
end Rz

namespace Rz
open PySem PySem.Spec PyProof.Rows L2
/-! ### more of the class's own special methods -/
section
variable {X : Cx} {k : Nat} {f C a dx : Addr} {fs : List (Str × V)} {fd : FuncData} {ps : List Str} {sp : Sp} {pins : List (Addr × Obj)} {σ : L2.St} {H : Hp} {s : Shared}
/-- o += x by the own __iadd__ -/
def tIpO (C : Addr) (sp : Sp) : V → V → Hp → VK → Prop := fun x y H Q => ∃ a dx fs, x = .ref a ∧ H a = some (.ins C dx fs) ∧ sp [x, y] H (fun v H' => (∃ b, v = .ref b) ∧ Q v H') E0
theorem ip_own (M : Meth X.K C "__iadd__" f) (hc : PySem.W.selfFirst X.K C = true) (F : FnOk X.prog X.w X.K X.mg X.base (L2.CX X.prog X.w) k f fd ps sp) (hr : Room k X.A) (hb : Binds X.K fd ps []) : PIp X .Add (tIpO C sp) := by
  intro pins s σ H x y v u Q I r1 r2 h
  obtain ⟨a, dx, fs, rfl, ea, hq⟩ := h
  obtain rfl : v = Value.ref a := r1
  obtain ⟨od, J⟩ := inst_at I ea
  obtain ⟨m0, hF⟩ := I.fr
  refine PySem.W.ksp_inplace hF I.ok.mod.kin J hc M.at_ M.fn (wpAny_mono (run_below (vs := [.ref a, y]) F hr rfl hb I (.cons rfl (.cons r2 .nil)) hq) (fun r s' hv => ?_) fun _ _ z => z)
  obtain ⟨z, H', J', rz, ⟨b, rfl⟩, q⟩ := hv
  obtain rfl : r = Value.ref b := rz
  exact ⟨.ref b, H', J', rfl, q⟩
/-- o[i] = v by the own __setitem__ -/
def tSetO (C : Addr) (sp : Sp) : TSet := fun o i v H Q => ∃ a dx fs, o = .ref a ∧ H a = some (.ins C dx fs) ∧ sp [o, i, v] H (fun _ H' => Q H') E0
theorem set_own (M : Meth X.K C "__setitem__" f) (hn : PySem.W.noSeq X.K C = true) (F : FnOk X.prog X.w X.K X.mg X.base (L2.CX X.prog X.w) k f fd ps sp) (hr : Room k X.A) (hb : Binds X.K fd ps []) : PSet X (tSetO C sp) := by
  intro pins s σ H o i v ov iv u Q I r1 r2 r3 h
  obtain ⟨a, dx, fs, rfl, ea, hq⟩ := h
  obtain rfl : ov = Value.ref a := r1
  obtain ⟨od, J⟩ := inst_at I ea
  obtain ⟨m0, hF⟩ := I.fr
  refine PySem.W.ksp_setItem hF I.ok.mod.kin J hn M.at_ M.fn (wpAny_mono (run_below (vs := [.ref a, i, v]) F hr rfl hb I (.cons rfl (.cons r2 (.cons r3 .nil))) hq) (fun r s' hv => ?_) fun _ _ z => z)
  obtain ⟨z, H', J', rz, q⟩ := hv
  exact ⟨H', J', q⟩
/-- len(x) by the own __len__ -/
def rLenO (C : Addr) (sp : Sp) : List V → Hp → VK → Prop := fun xs H Q => ∃ a dx fs, xs = [.ref a] ∧ H a = some (.ins C dx fs) ∧ sp [.ref a] H (fun v H' => ∃ n : Nat, v = .int n ∧ n < 2 ^ 63 ∧ Q v H') E0
theorem call_lenO (M : Meth X.K C "__len__" f) (F : FnOk X.prog X.w X.K X.mg X.base (L2.CX X.prog X.w) k f fd ps sp) (hr : Room (k + 1) X.A) (hb : Binds X.K fd ps []) : CallR X (.builtin "len") (rLenO C sp) := by
  intro pins s σ H xs us Q I r h
  obtain ⟨a, dx, fs, rfl, ea, hq⟩ := h
  obtain ⟨u, rfl, ru⟩ := vals1 r
  obtain rfl : u = Value.ref a := ru
  obtain ⟨od, J⟩ := inst_at I ea
  obtain ⟨m0, hF⟩ := I.fr
  refine PySem.W.len_K hF I.ok.mod.kin J M.at_ M.fn (wpAny_mono (run_below (vs := [.ref a]) F hr.in1 rfl hb I (.cons rfl .nil) hq) (fun r s' hv => ?_) fun _ _ z => z)
  obtain ⟨z, H', J', rz, n, rfl, hn, q⟩ := hv
  obtain ⟨t, rfl⟩ := rz
  exact ⟨⟨by omega, by omega⟩, .int n, H', J'.tok _, ⟨_, rfl⟩, q⟩
/-- abs(x) by the own __abs__ -/
def rAbsO (C : Addr) (sp : Sp) : List V → Hp → VK → Prop := fun xs H Q => ∃ a dx fs, xs = [.ref a] ∧ H a = some (.ins C dx fs) ∧ sp [.ref a] H Q E0
theorem call_absO (M : Meth X.K C "__abs__" f) (F : FnOk X.prog X.w X.K X.mg X.base (L2.CX X.prog X.w) k f fd ps sp) (hr : Room (k + 1) X.A) (hb : Binds X.K fd ps []) : CallR X (.builtin "abs") (rAbsO C sp) := by
  intro pins s σ H xs us Q I r h
  obtain ⟨a, dx, fs, rfl, ea, hq⟩ := h
  obtain ⟨u, rfl, ru⟩ := vals1 r
  obtain rfl : u = Value.ref a := ru
  obtain ⟨od, J⟩ := inst_at I ea
  refine Calls.call_function_entry kind_abs plain_abs entry_abs (args_abs _) ?_
  unfold Builtin.«abs»
  refine wpAny_bind (m := oneArg "abs" _) (wpAny_pure ?_)
  refine wpAny_bind (m := callSpecial? (.ref a) (Str.ofString "__abs__")) (PySem.W.special_fn I.kIn J M.at_ (beq_iff_eq.mp M.fn) (wpAny_mono (run_below (vs := [.ref a]) F hr.in1 rfl hb I (.cons rfl .nil) hq) (fun r s' hv => ?_) fun _ _ z => z))
  exact wpAny_pure ⟨_, rfl, hv⟩
end
end Rz
namespace Rz
open PySem PySem.Spec PyProof.Rows L2
section
variable {X : Cx} {k : Nat} {fi fn C : Addr} {fdI fdN : FuncData} {psI psN : List Str} {spI spN : Sp} {pins : List (Addr × Obj)} {σ : L2.St} {A1 : Around} {l q it : Addr} {ys : List V} {H0 : Hp} {Rs : Result → Shared → Prop}
/-- a list filled from an iterator over another one -/
theorem lo_loop (hh : A1.handled = none) (hs : SqL X.K H0 l ys) (hz : ys.length ≤ sizeLine) (nq : H0 q = none) (ni : H0 it = none) (ne : it ≠ q)
    (hR : ∀ H s, Inv X pins σ H s → (∀ b o, H0 b = some o → H b = some o) → H q = some (.lst ys) → Rs (.ok (.ret .none)) s) :
    ∀ (j i : Nat) (H : Hp) (s : Shared), ys.length - i = j → i ≤ ys.length → Inv X pins σ H s → (∀ b o, H0 b = some o → H b = some o) → H it = some (ItO l it i) → H q = some (.lst (ys.take i)) →
      codeAny (model X.prog X.w) A1 (.builtin "list.extend.loop" ⟨[.ref q, .ref it, .none], []⟩) Rs s := by
  intro j
  induction j with
  | zero =>
    intro i H s hj hi I S ei eq
    have e0 : i = ys.length := by omega
    subst e0
    obtain ⟨its, rv, pl, _⟩ := I.list (Same.seq (H := H0) (H' := H) (fun b o e => S b o e) hs)
    have ty : s.TypeIs (.ref it) "list_iterator" := ⟨_, itO_get I ei, rfl⟩
    have mu : Mut (H it) := by rw [ei]; exact True.intro
    refine codeAny_builtin PySem.F.entry_extend_loop ?_
    rw [Around.under_plainId PySem.F.plain_extend_loop _]
    show wpAny _ A1.in1 (pyNext (.ref it) >>= _) _ _ s
    refine wpAny_bind ?_
    unfold pyNext
    refine wpAny_bind (wpAny_attempt (wpAny_callSpecial?_slot (name := Str.ofString "__next__") ty slot_listiter_next (wpAny_call_entry slot_listiter_next ty entry_listiter_next
      (GNX.next_end (A := A1.in1) hh (itO_get I ei) pl.isList (by rw [List.getElem?_toArray]; exact rv.none_of (List.getElem?_eq_none (Nat.le_refl _))) fun h1 h' e vs e1 sb kk nn he hv => ?_) (args_listiter_next _))))
    refine wpAny_bind (wpAny_isInstance (T := "StopIteration") (b := true) ⟨_, he, rfl⟩ isSubtype_stop ?_)
    have I2 : Inv X pins σ (upd H it (ItE it ys.length)) { s with heap := h1 } := I.write (x := it) (e := it) (t' := s.toks) mu (.inl rfl) (fun b o nb z => (sb.2 b nb).trans z) ⟨_, e1⟩ (itE_ok e1)
    have I3 : Inv X pins σ (upd H it (ItE it ys.length)) { s with heap := h' } := I2.kept (t' := s.toks) kk
    refine wpAny_pure (wpAny_pure (hR _ _ I3 (fun b o e => ?_) ?_))
    · rw [upd_ne (ne_of_none e ni)]
      exact S b o e
    · rw [upd_ne (Ne.symm ne), eq, List.take_length]
  | succ j ih =>
    intro i H s hj hi I S ei eq
    have hlt : i < ys.length := by omega
    obtain ⟨its, rv, pl, _⟩ := I.list (Same.seq (H := H0) (H' := H) (fun b o e => S b o e) hs)
    obtain ⟨u, hu, ru⟩ := rv.get (List.getElem?_eq_getElem hlt)
    have ty : s.TypeIs (.ref it) "list_iterator" := ⟨_, itO_get I ei, rfl⟩
    have mu : Mut (H it) := by rw [ei]; exact True.intro
    refine codeAny_builtin PySem.F.entry_extend_loop ?_
    rw [Around.under_plainId PySem.F.plain_extend_loop _]
    show wpAny _ A1.in1 (pyNext (.ref it) >>= _) _ _ s
    refine wpAny_bind ?_
    unfold pyNext
    refine wpAny_bind (wpAny_attempt (wpAny_callSpecial?_slot (name := Str.ofString "__next__") ty slot_listiter_next (wpAny_call_entry slot_listiter_next ty entry_listiter_next
      (GNX.next_item (itO_get I ei) pl.isList (by rw [List.getElem?_toArray]; exact hu) fun h' e' sb => wpAny_pure ?_) (args_listiter_next _))))
    have I1 : Inv X pins σ (upd H it (ItO l it (i + 1))) { s with heap := h' } := I.write (x := it) (e := it) (t' := s.toks) mu (.inl rfl) (fun b o nb z => (sb.2 b nb).trans z) ⟨_, e'⟩ (itO_ok e')
    have eq1 : upd H it (ItO l it (i + 1)) q = some (.lst (ys.take i)) := by rw [upd_ne (Ne.symm ne), eq]
    obtain ⟨z, its2, n, r2, hl, e⟩ := I1.lstM eq1
    have ltk : (ys.take i).length = i := by rw [List.length_take]; omega
    have tk1 : ys.take (i + 1) = ys.take i ++ [ys[i]] := by rw [List.take_add_one, List.getElem?_eq_getElem hlt]; rfl
    show wpAny _ A1.in1 (updateSeq q (·.push u) >>= _) _ _ _
    refine wpAny_bind (wpAny_updateSeq e rfl (wpAny_pure ⟨plainId_quiet PySem.F.plain_extend_loop _, ?_⟩) (by rw [List.size_toArray]; omega) (by show (its2.toArray.push u).size ≤ sizeLine + 1; rw [Array.size_push, List.size_toArray]; omega))
    refine ih (i + 1) _ _ (by omega) hlt (I1.lset (its' := its2 ++ [u]) (t' := s.toks) eq1 e (by simp) (r2.append (.cons ru .nil)) (by rw [List.length_append, List.length_singleton]; omega)) (fun b o e => ?_) ?_ ?_
    · rw [upd_ne (ne_of_none e nq), upd_ne (ne_of_none e ni)]
      exact S b o e
    · rw [upd_ne ne, upd_same]
    · rw [upd_same, tk1]
def rListO (K : PySem.W.Frag) (C : Addr) (spI spN : Sp) : List V → Hp → VK → Prop := fun xs H Q => ∃ (a dx : Addr) (fs : List (Str × V)) (l : Addr) (ys : List V) (n : Nat), xs = [.ref a] ∧ H a = some (.ins C dx fs) ∧ SqL K H l ys ∧ n < 2 ^ 63 ∧ Builtin.List.listTooLong n = false ∧
  (∀ (H1 : Hp) (R : VK), Same H H1 → (∀ it, H1 it = none → R (.ref it) (upd H1 it (ItO l it 0))) → spI [.ref a] H1 R E0) ∧ (∀ (H1 : Hp) (R : VK), Same H H1 → R (.int (n : Nat)) H1 → spN [.ref a] H1 R E0) ∧
  ∀ (H' : Hp) (q : Addr), Same H H' → H q = none → H' q = some (.lst ys) → Q (.ref q) H'
theorem hint_own {M : Model} {A : Around} {E : Value → Shared → Prop} {s : Shared} {a : Addr} {Q : Bool → Shared → Prop} {K : PySem.W.Frag} {ox : Obj} {od : Option Obj} (hK : K.In s.heap) (MN : Meth K C "__len__" fn) (J : PySem.W.InstAt s.heap a ox C od)
    (h : wpAny M A (call (.builtin "len") [.ref a]) (fun v s' => ∃ (n : Int) (t : Tok), v = .int n t ∧ Builtin.List.listTooLong n.toNat = false ∧ Q (n != 0) s') (fun _ _ => False) s) : wpAny M A (Builtin.List.listLengthHint (.ref a)) Q E s := by
  unfold Builtin.List.listLengthHint
  refine wpAny_bind (wpAny_bind (J.type.here ((PySem.W.looks_findIn hK MN.at_).here ?_)))
  refine PySem.W.KFB.if_not rfl ?_
  refine PySem.W.KFB.if_so rfl ?_
  refine wpAny_bind (wpAny_rule ?_)
  refine wpAny_bind (wpAny_attempt (wpAny_mono h (fun v s' hv => ?_) fun _ _ z => z.elim))
  obtain ⟨n, t, rfl, hl, q⟩ := hv
  refine wpAny_bind (wpAny_of_eq (a := some n) rfl ?_)
  refine PySem.W.KFB.if_not hl ?_
  exact wpAny_pure q
theorem li_next : typeLookup (.type "list_iterator") "__next__" = pure (some (.builtin "list_iterator.__next__")) := slot_listiter_next.lookup
/-- list(x) by the own __iter__, that yields an iterator over a list, and the own __len__ -/
theorem call_listR (hcalm : X.calm = true) (MI : Meth X.K C "__iter__" fi) (FI : FnOk X.prog X.w X.K X.mg X.base (L2.CX X.prog X.w) k fi fdI psI spI) (bI : Binds X.K fdI psI []) (MN : Meth X.K C "__len__" fn) (FN : FnOk X.prog X.w X.K X.mg X.base (L2.CX X.prog X.w) k fn fdN psN spN) (bN : Binds X.K fdN psN [])
    (hr : Room (k + 3) X.A) : CallR X (.type "list") (rListO X.K C spI spN) := by
  intro pins s σ H xs us Q I r h
  obtain ⟨a, dx, fs, l, ys, n, rfl, ha, hq, hn, hlong, hI, hN, fin⟩ := h
  obtain ⟨u, rfl, ru⟩ := vals1 r
  obtain rfl : u = Value.ref a := ru
  obtain ⟨its0, rv0, pl0, hz⟩ := I.list hq
  have hyz : ys.length ≤ sizeLine := by
    have := rv0.length
    omega
  refine callType_codes (Q₁ := fun obj s₁ => obj = .ref s.heap.objs.size ∧ s₁ = { s with heap := s.heap.push { cls := .type "list", data := .seq #[] } }) PySem.F.called_list (PySem.F.typeCall_list_1 (.ref a)) PySem.F.entry_list_init
    (code_list_new _ ⟨rfl, rfl⟩) fun obj s₁ h₁ => ?_
  obtain ⟨rfl, rfl⟩ := h₁
  have hS : (s.heap.push { cls := .type "list", data := .seq #[] }).get? s.heap.objs.size = some { cls := .type "list", data := .seq #[] } := Heap.get?_push_size _ rfl
  refine ⟨⟨_, hS, rfl⟩, PySem.F.args_list_init_2 _ (.ref a), ?_⟩
  have fr : H s.heap.objs.size = none := I.hok.fresh (Nat.le_refl _)
  have I1 : Inv X pins σ (upd H s.heap.objs.size (.lst [])) { s with heap := s.heap.push { cls := .type "list", data := .seq #[] } } := I.lnew (its := []) (t' := s.toks) .nil (Nat.zero_le _)
  generalize s.heap.objs.size = p at fr I1 hS ⊢
  show wpAny _ X.A.in1.in1 (do let old ← Builtin.List.listItems (.ref p); Builtin.List.listUpdate (.ref p) (fun _ => #[]); letGo old.toList.reverse; Builtin.List.listExtendWith (.ref p) (.ref a) .none) _ _ _
  refine wpAny_bind ?_
  unfold Builtin.List.listItems
  refine wpAny_bind (wpAny_seqItems hS rfl (wpAny_pure ?_))
  show wpAny _ _ (updateSeq p (fun _ => #[]) >>= fun _ => letGo (#[] : Array Value).toList.reverse >>= fun _ => Builtin.List.listExtendWith (.ref p) (.ref a) .none) _ _ _
  refine wpAny_bind (wpAny_updateSeq hS rfl ?_)
  have I2 := I1.lset (f := fun _ => #[]) (its := []) (its' := []) (ys := []) (t' := s.toks) upd_same hS rfl .nil (Nat.zero_le _)
  rw [upd_upd] at I2
  refine wpAny_bind (wpAny_letGo ?_)
  have S2 : Same H (upd H p (.lst [])) := Rz.Same.new (Same.refl H) fr
  have ha2 := S2 _ _ ha
  have hne : p ≠ a := fun z => by
    subst z
    rw [fr] at ha
    cases ha
  obtain ⟨od, J⟩ := inst_at I2 ha2
  obtain ⟨m0, hF⟩ := I2.fr
  unfold Builtin.List.listExtendWith
  refine wpAny_bind (J.type.here ?_)
  have c1 : Builtin.List.listSameRef (.ref p) (.ref a) = false := by simp [Builtin.List.listSameRef, hne]
  have c2 : (Value.ref C == Value.type "list") = false := rfl
  have c3 : (Value.ref C == Value.type "tuple") = false := rfl
  simp only [c1, c2, c3, Bool.or_false, Bool.false_eq_true, if_false]
  refine wpAny_bind (PySem.W.owit_iter hF I2.ok.mod.kin J MI.at_ MI.fn (wpAny_mono (run_below (A := X.A.in1.in1) (vs := [.ref a]) FI (hr.in1.in1.mono (Nat.le_succ k)) rfl bI I2 (.cons rfl .nil)
    (hI _ (fun v H' => ∃ it, v = .ref it ∧ upd H p (.lst []) it = none ∧ H' = upd (upd H p (.lst [])) it (ItO l it 0)) S2 fun it hit => ⟨it, rfl, hit, rfl⟩)) (fun v s' hv => ?_) fun _ _ z => z))
  obtain ⟨x, H3, I3, rx, it, rfl, hit, rfl⟩ := hv
  obtain rfl : v = Value.ref it := rx
  have S3 : Same H (upd (upd H p (.lst [])) it (ItO l it 0)) := Rz.Same.new S2 hit
  have fit : H it = none := by
    cases e : H it with
    | none => rfl
    | some o => rw [S2 _ _ e] at hit; cases hit
  have nip : it ≠ p := fun z => by
    subst z
    rw [upd_same] at hit
    cases hit
  have ty : s'.TypeIs (.ref it) "list_iterator" := ⟨_, itO_get I3 upd_same, rfl⟩
  unfold PySem.W.OwitIt
  refine wpAny_specialOf ty li_next ?_
  refine wpAny_bind (wpAny_holding ?_)
  have ha3 := S3 _ _ ha
  obtain ⟨od3, J3⟩ := inst_at I3 ha3
  obtain ⟨m3, hF3⟩ := I3.fr
  refine hint_own I3.kIn MN J3 (PySem.W.len_K hF3 I3.ok.mod.kin J3 MN.at_ MN.fn (wpAny_mono (run_below (A := X.A.in1.in1.in1) (vs := [.ref a]) (E' := fun _ _ => False) FN hr.in1.in1.in1 rfl bN I3 (.cons rfl .nil)
    (hN _ (fun v H' => v = .int (n : Nat) ∧ H' = upd (upd H p (.lst [])) it (ItO l it 0)) S3 ⟨rfl, rfl⟩)) (fun v s4 hv => ?_) fun _ _ z => z.elim))
  obtain ⟨x, H4, I4, rx, rfl, rfl⟩ := hv
  obtain ⟨t4, rfl⟩ := rx
  refine ⟨⟨by omega, by omega⟩, (n : Nat), s4.toks, rfl, hlong, ?_⟩
  have eq4 : upd (upd H p (.lst [])) it (ItO l it 0) p = some (.lst []) := by rw [upd_ne (Ne.symm nip), upd_same]
  have J4 : Inv X pins σ (upd (upd H p (.lst [])) it (ItO l it 0)) { s4 with toks := s4.toks + 1 } := I4.tok _
  have last : ∀ s5, Inv X pins σ (upd (upd H p (.lst [])) it (ItO l it 0)) s5 → codeAny (model X.prog X.w) X.A.in1 (.builtin "list.extend.loop" ⟨[.ref p, .ref it, .none], []⟩) (wants (fun r s₂ => r = .none ∧ EP X pins σ Q (.ref p) s₂) X.xe) s5 := fun s5 I5 =>
    lo_loop (A1 := X.A.in1) (H0 := H) (Rs := wants (fun r s₂ => r = .none ∧ EP X pins σ Q (.ref p) s₂) X.xe) (I5.ok.hd hcalm) hq hyz fr fit nip (fun H6 s6 I6 S6 e6 => ⟨rfl, .ref p, H6, I6, rfl, fin H6 p (fun b o e => S6 b o e) fr e6⟩) ys.length 0 _ _ (by omega) (Nat.zero_le _) I5 (fun b o e => S3 b o e) upd_same eq4
  obtain ⟨z, its, kk, r3, hl3, e3⟩ := J4.lstM eq4
  cases r3
  refine wpAny_ite_split (fun _ => ?_) (fun _ => wpAny_pure ⟨plainId_quiet PySem.F.plain_extend_loop _, last _ J4⟩)
  refine wpAny_bind (wpAny_rule ?_)
  refine wpAny_bind ?_
  show wpAny _ _ (updateSeq p (·.push .none) >>= fun _ => updateSeq p (·.pop)) _ _ _
  refine wpAny_bind (wpAny_updateSeq e3 rfl ?_)
  have K2 := J4.lset (f := (·.push Value.none)) (its' := [Value.none]) (ys := [.non]) (t' := s4.toks + 1) eq4 e3 (by simp) (.cons rfl .nil) (by rw [List.length_singleton, sizeLine_eq]; decide)
  obtain ⟨z4, its4, k4, r4, hl4, e4⟩ := K2.lstM upd_same
  obtain ⟨u4, rfl, ru4⟩ := r4.one
  refine wpAny_updateSeq e4 rfl ?_ (by show 1 ≤ sizeLine; rw [sizeLine_eq]; decide) (by show 0 ≤ sizeLine + 1; exact Nat.zero_le _)
  refine wpAny_pure ⟨plainId_quiet PySem.F.plain_extend_loop _, last _ ?_⟩
  have K3 := K2.lset (f := (·.pop)) (its := [u4]) (its' := []) (ys := []) (t' := s4.toks + 1) upd_same e4 (by rfl) .nil (Nat.zero_le _)
  rw [upd_upd] at K3
  have back : ∀ (G : Hp), G p = some (.lst []) → upd G p (.lst []) = G := fun G g => by
    funext b
    by_cases hb : b = p
    · rw [hb, upd_same, g]
    · rw [upd_ne hb]
  rw [back _ eq4] at K3
  exact K3
end
end Rz

namespace Rz
open PySem PySem.Spec PyProof.Rows L2
/-! ### max(list of ints, default=d) -/
section
variable {prog : Program} {w : World} {A : Around} {R : Result → Shared → Prop} {I S : Addr} {f1 wr : List Addr} {n : Nat} {P : Nat → Value → Prop} {St : Nat → Heap → Prop} {kw : List (Str × Value)}
theorem mx_name : (toString "max" ++ toString ".loop" : String) = "max.loop" := by decide
theorem mxd_loop (Wk : Walks prog w A.in1 I f1 wr n P St) (bt : Nat → Nat → Bool) (cmp : CmpOf prog w A.in1 .Gt P bt) (sep : S ∉ f1) : ∀ (k j : Nat) (s : Shared) (best : Value) (c : Nat), n - (j + 1) = k → j + 1 ≤ n → St (j + 1) s.heap → P (argBest bt j) best →
    s.heap.get? S = some { cls := .type "list", dict := none, data := .seq #[best, best] c, slots := #[] } →
    (∀ v h' tk, P (argBest bt (n - 1)) v → (∀ b o, b ∉ wr → b ≠ S → s.heap.get? b = some o → h'.get? b = some o) → R (.ok (.ret v)) { s with heap := h', toks := tk }) → codeAny (model prog w) A (.builtin "max.loop" ⟨[.ref I, .none, .ref S], kw⟩) R s := by
  have sepW : S ∉ wr := fun h => sep (Wk.sub _ h)
  intro k
  induction k with
  | zero =>
    intro j s best c hk hj st pb gS fin
    have last : j + 1 = n := by omega
    refine codeAny_builtin F.entry_max_loop ?_
    rw [Around.under_plainId F.plain_max_loop _]
    show wpAny _ A.in1 (seqItems? (.ref S) >>= _) _ _ s
    refine wpAny_bind (wpAny_seqItems gS rfl ?_)
    show wpAny _ A.in1 (tryCatch (pyNext (.ref I)) _ >>= _) _ _ s
    refine wpAny_bind (wpAny_tryCatch (Wk.done s _ _ (last ▸ st) fun h' tk kk => ?_))
    have gS' := kk S _ sepW gS
    show wpAny _ A.in1 (updateSeq S (fun _ => #[]) >>= _) _ _ _
    refine wpAny_bind ?_
    refine wpAny_updateSeq gS' rfl (wpAny_bind (wpAny_letGo (wpAny_pure ?_)))
    refine fin best _ tk (by rw [← last]; exact pb) fun b o nb nS e => (Heap.get?_update_other _ _ (Ne.symm nS)).trans (kk b o nb e)
  | succ k ih =>
    intro j s best c hk hj st pb gS fin
    have lt : j + 1 < n := by omega
    refine codeAny_builtin F.entry_max_loop ?_
    rw [Around.under_plainId F.plain_max_loop _]
    show wpAny _ A.in1 (seqItems? (.ref S) >>= _) _ _ s
    refine wpAny_bind (wpAny_seqItems gS rfl ?_)
    show wpAny _ A.in1 (tryCatch (pyNext (.ref I)) _ >>= _) _ _ s
    refine wpAny_bind (wpAny_tryCatch (Wk.item (j + 1) s _ _ lt st fun v h' tk pv st' kk => ?_))
    have gS' := kk S _ sepW gS
    show wpAny _ A.in1 (tryCatch (holding [v, v] (richCompare .Gt v best >>= _)) _ >>= _) _ _ _
    refine wpAny_bind (wpAny_tryCatch (wpAny_holding (wpAny_bind (cmp (j + 1) (argBest bt j) v best _ _ _ pv pb ?_))))
    refine wpAny_bind (wpAny_holding (wpAny_truthy_bool ?_))
    refine wpAny_bind (wpAny_letGo (wpAny_pure ?_))
    cases better : bt (j + 1) (argBest bt j) with
    | true =>
      simp only [if_true]
      refine wpAny_bind ?_
      refine wpAny_updateSeq gS' rfl (wpAny_bind (wpAny_letGo ?_))
      rw [mx_name]
      refine wpAny_pure ⟨plainId_quiet F.plain_max_loop _, ih (j + 1) _ v _ (by omega) lt (Wk.frame _ _ _ st' fun b hb o e => (Heap.get?_update_other _ _ (fun h : S = b => sep (by rw [h]; exact hb))).trans e) (by simp only [argBest, better, if_true]; exact pv) (Heap.get?_update_self _ gS' rfl)
        fun v' h2 tk2 pv2 kk2 => fin v' h2 tk2 pv2 fun b o nb nS e => kk2 b o nb nS ((Heap.get?_update_other _ _ (Ne.symm nS)).trans (kk b o nb e))⟩
    | false =>
      simp only [Bool.false_eq_true, if_false]
      refine wpAny_bind (wpAny_letGo ?_)
      rw [mx_name]
      refine wpAny_pure ⟨plainId_quiet F.plain_max_loop _, ih (j + 1) _ best c (by omega) lt st' (by simp only [argBest, better, Bool.false_eq_true, if_false]; exact pb) gS'
        fun v' h2 tk2 pv2 kk2 => fin v' h2 tk2 pv2 fun b o nb nS e => kk2 b o nb nS (kk b o nb e)⟩
theorem mxd_first (Wk : Walks prog w A.in1 I f1 wr n P St) (bt : Nat → Nat → Bool) (cmp : CmpOf prog w A.in1 .Gt P bt) (sep : S ∉ f1) (pos : 0 < n) {s : Shared} {c : Nat} (st : St 0 s.heap)
    (gS : s.heap.get? S = some { cls := .type "list", dict := none, data := .seq #[] c, slots := #[] })
    (fin : ∀ v h' tk, P (argBest bt (n - 1)) v → (∀ b o, b ∉ wr → b ≠ S → s.heap.get? b = some o → h'.get? b = some o) → R (.ok (.ret v)) { s with heap := h', toks := tk }) : codeAny (model prog w) A (.builtin "max.loop" ⟨[.ref I, .none, .ref S], kw⟩) R s := by
  have sepW : S ∉ wr := fun h => sep (Wk.sub _ h)
  refine codeAny_builtin F.entry_max_loop ?_
  rw [Around.under_plainId F.plain_max_loop _]
  show wpAny _ A.in1 (seqItems? (.ref S) >>= _) _ _ s
  refine wpAny_bind (wpAny_seqItems gS rfl ?_)
  show wpAny _ A.in1 (tryCatch (pyNext (.ref I)) _ >>= _) _ _ s
  refine wpAny_bind (wpAny_tryCatch (Wk.item 0 s _ _ pos st fun v h' tk pv st' kk => ?_))
  have gS' := kk S _ sepW gS
  show wpAny _ A.in1 (updateSeq S (fun _ => #[v, v]) >>= _) _ _ _
  refine wpAny_bind ?_
  refine wpAny_updateSeq gS' rfl ?_
  rw [mx_name]
  refine wpAny_pure ⟨plainId_quiet F.plain_max_loop _, mxd_loop Wk bt cmp sep _ 0 _ v _ rfl pos (Wk.frame _ _ _ st' fun b hb o e => (Heap.get?_update_other _ _ (fun h : S = b => sep (by rw [h]; exact hb))).trans e) pv (Heap.get?_update_self _ gS' rfl)
    fun v' h2 tk2 pv2 kk2 => fin v' h2 tk2 pv2 fun b o nb nS e => kk2 b o nb nS ((Heap.get?_update_other _ _ (Ne.symm nS)).trans (kk b o nb e))⟩
theorem mxd_none (Wk : Walks prog w A.in1 I f1 wr 0 P St) (sep : S ∉ f1) {s : Shared} {c : Nat} {x : Str} {d : Value} (st : St 0 s.heap)
    (gS : s.heap.get? S = some { cls := .type "list", dict := none, data := .seq #[] c, slots := #[] })
    (fin : ∀ h' tk, (∀ b o, b ∉ wr → b ≠ S → s.heap.get? b = some o → h'.get? b = some o) → R (.ok (.ret d)) { s with heap := h', toks := tk }) : codeAny (model prog w) A (.builtin "max.loop" ⟨[.ref I, .none, .ref S], [(x, d)]⟩) R s := by
  refine codeAny_builtin F.entry_max_loop ?_
  rw [Around.under_plainId F.plain_max_loop _]
  show wpAny _ A.in1 (seqItems? (.ref S) >>= _) _ _ s
  refine wpAny_bind (wpAny_seqItems gS rfl ?_)
  show wpAny _ A.in1 (tryCatch (pyNext (.ref I)) _ >>= _) _ _ s
  refine wpAny_bind (wpAny_tryCatch (Wk.done s _ _ st fun h' tk kk => ?_))
  exact wpAny_bind (wpAny_rule (wpAny_pure (fin h' tk fun b o nb _ e => kk b o nb e)))
end
section
variable {prog : Program} {w : World} {A : Around} {E : Value → Shared → Prop} {s : Shared} {l : Addr} {xs : Array (Int × Tok)} {d : Value}
theorem mxd_args (a d : Value) : argsOk "max" ⟨[a], [("default", d)]⟩ := by unfold argsOk; kernel_rfl
theorem mxd_entry {Q : Value → Shared → Prop} (h : wpAny (model prog w) A.in1 (pyIter (.ref l)) (fun it s2 => ∃ I f1 wr n P St bt, it = .ref I ∧ Walks prog w A.in1 I f1 wr n P St ∧ St 0 s2.heap ∧ (∀ b ∈ f1, b < s2.heap.objs.size) ∧ CmpOf prog w A.in1 .Gt P bt ∧
      (n = 0 → ∀ h' tk, (∀ b o, b ∉ wr → s2.heap.get? b = some o → h'.get? b = some o) → Q d { s2 with heap := h', toks := tk }) ∧
      (0 < n → ∀ v h' tk, P (argBest bt (n - 1)) v → (∀ b o, b ∉ wr → s2.heap.get? b = some o → h'.get? b = some o) → Q v { s2 with heap := h', toks := tk })) E s) :
    wpAny (model prog w) A (call (.builtin "max") [.ref l] [("default", d)]) Q E s := by
  refine wpAny_call (codeAny_call_builtin F.plain_max F.entry_max ?_)
  have e : checkBuiltinCall "max" ⟨[.ref l], [("default", d)]⟩ = pure () := by
    have ha := mxd_args (.ref l) d
    simp only [checkBuiltinCall, F.kind_max]
    unfold argsOk at ha
    cases hs : Manifest.signature? "max" with
    | none => rfl
    | some sig => rw [hs] at ha; exact ha
  rw [e]
  refine wpAny_pure ?_
  show wpAny _ A.in1 (Builtin.Builtins.bindParams "max" ["key", "default"] 0 ⟨[], [("default", d)]⟩ >>= _) _ _ s
  refine wpAny_bind (wpAny_of_eq (show Builtin.Builtins.bindParams "max" ["key", "default"] 0 ⟨[], [("default", d)]⟩ = pure [none, some d] from rfl) ?_)
  refine wpAny_bind (wpAny_pure ?_)
  refine wpAny_bind (wpAny_mono h (fun it s2 h2 => ?_) fun _ _ e => e)
  obtain ⟨I, f1, wr, n, P, St, bt, rfl, Wk, st, below, cmp, q0, q1⟩ := h2
  refine wpAny_bind (wpAny_newObj_type ?_)
  have sep : s2.heap.objs.size ∉ f1 := fun hm => Nat.lt_irrefl _ (below _ hm)
  rw [mx_name]
  have st2 := Wk.frame _ _ _ st fun b _ o e => Heap.get?_push_of_some { cls := .type "list", data := .seq #[] } e
  rcases Nat.eq_zero_or_pos n with z | pos
  · subst z
    exact wpAny_pure ⟨plainId_quiet F.plain_max_loop _, mxd_none Wk sep st2 (Heap.get?_push_size _ rfl) fun h' tk kk => q0 rfl h' tk fun b o nb e => kk b o nb (Nat.ne_of_lt (Heap.lt_size e)) (Heap.get?_push_of_some _ e)⟩
  · exact wpAny_pure ⟨plainId_quiet F.plain_max_loop _, mxd_first Wk bt cmp sep pos st2 (Heap.get?_push_size _ rfl) fun v h' tk pv kk => q1 pos v h' tk pv fun b o nb e => kk b o nb (Nat.ne_of_lt (Heap.lt_size e)) (Heap.get?_push_of_some _ e)⟩
end
section
variable {X : Cx}
def rMaxDef (K : PySem.W.Frag) : List V → List V → Hp → VK → Prop := fun xs zs H Q => ∃ (l : Addr) (ns : List Int) (d : Int), xs = [.ref l] ∧ zs = [.int d] ∧ SqL K H l (ns.map V.int) ∧ (ns = [] → Q (.int d) H) ∧ (∀ m, m ∈ ns → (∀ y, y ∈ ns → y ≤ m) → Q (.int m) H)
theorem call_maxDef (hc : X.calm = true) : CallRK X (.builtin "max") ["default"] (rMaxDef X.K) := by
  intro pins s σ H xs zs us ws Q I r1 r2 h
  obtain ⟨l, ns, d, rfl, rfl, hs, q0, q1⟩ := h
  obtain ⟨its, rv, hl, _⟩ := I.list hs
  obtain ⟨u, rfl, ru⟩ := vals1 r2
  obtain ⟨td, rfl⟩ := ru
  rw [Vals.ref1 r1]
  have hi := rv.ints
  obtain ⟨as, e⟩ := hi.allInts.items
  have hn : numsOf (intItems as).toList = ns := by rw [← e]; exact hi.numsOf
  rw [nums_intItems] at hn
  subst hn
  have hl2 := hl.isList
  rw [e] at hl2
  show wpAny _ _ (call (.builtin "max") [.ref l] [("default", .int d td)]) _ _ _
  refine mxd_entry (iter_intList hl2 fun s2 e st below hlI => ?_)
  subst e
  refine ⟨_, _, _, _, _, _, _, rfl, Walks.list (A := X.A.in1) (I.ok.hd hc) _ l hlI (intItems as), st, below, CmpOf.ints_gt (numAt as) (fun _ _ => intItems_at), fun hz h' tk kk => ?_, fun pos v h' tk pv kk => ?_⟩
  · have e0 : as.size = 0 := by simpa [intItems] using hz
    exact ⟨.int d, H, I.kept (old_kept kk), ⟨_, rfl⟩, q0 (by rw [Array.eq_empty_of_size_eq_zero e0]; rfl)⟩
  · have p0 : 0 < as.size := by simpa [intItems] using pos
    have pv' : (intItems as)[argBest (fun i j => decide (numAt as i > numAt as j)) (as.size - 1)]? = some v := by simpa [intItems] using pv
    obtain ⟨t, rfl⟩ := intItems_at pv'
    obtain ⟨h1, h2⟩ := argBest_gt (numAt as) (as.size - 1)
    refine ⟨.int _, H, I.kept (old_kept kk), ⟨t, rfl⟩, q1 _ ?_ fun a ha => ?_⟩
    · rw [numAt_eq]
      exact PySem.getD_mem (by rw [List.length_map, Array.length_toList]; omega)
    · obtain ⟨j, hj, rfl⟩ := mem_getD ha
      rw [List.length_map, Array.length_toList] at hj
      rw [← numAt_eq]
      exact h2 j (by omega)
end
end Rz

namespace Rz
open PySem PySem.Spec PyProof.Rows L2
/-! ### rows: pairs of a sign's code and a height -/
abbrev Pr := Nat × Int
def prV (p : Pr) : List V := [.str ⟨#[p.1]⟩, .int p.2]
/-- the tuples ts are the pairs ps -/
def PAt (H : Hp) (ts : List Addr) (ps : List Pr) : Prop := Paired (fun (t : Addr) (p : Pr) => H t = some (.tup (prV p))) ts ps
/-- a list of such tuples -/
def LAt (H : Hp) (l : Addr) (ps : List Pr) : Prop := ∃ ts : List Addr, H l = some (.lst (ts.map V.ref)) ∧ PAt H ts ps
/-- a row: its list stands at l -/
def RAt (cR : Addr) (H : Hp) (p l : Addr) (ps : List Pr) : Prop := ∃ dx, H p = some (.ins cR dx [("_pairs", .ref l)]) ∧ LAt H l ps
/-- signs with heights -/
def GoodR (ps : List Pr) : Prop := ∀ p ∈ ps, oddC p.1 = false ∧ 0 ≤ p.2 ∧ p.2 ≤ 9
def tx (ps : List Pr) : Str := ⟨(ps.map (·.1)).toArray⟩
def hts (ps : List Pr) : List Int := ps.map (·.2)
theorem tx_len (ps : List Pr) : (tx ps).length = ps.length := by
  show (ps.map (·.1)).toArray.size = _
  rw [List.size_toArray, List.length_map]
theorem tx_list (ps : List Pr) : (tx ps).cps.toList = ps.map (·.1) := rfl
theorem hts_len (ps : List Pr) : (hts ps).length = ps.length := List.length_map ..
/-- tuples stay -/
def Tups (H H' : Hp) : Prop := ∀ b xs, H b = some (.tup xs) → H' b = some (.tup xs)
theorem Tups.of {H H' : Hp} (h : Same H H') : Tups H H' := fun b _ e => h b _ e
theorem Tups.but {D : List Addr} {H H' : Hp} (h : But D H H') (n : ∀ d ∈ D, ∀ xs, H d ≠ some (.tup xs)) : Tups H H' := fun b xs e => h b _ (fun hb => n b hb xs e) e
theorem Tups.trans {H H1 H2 : Hp} (a : Tups H H1) (b : Tups H1 H2) : Tups H H2 := fun c xs e => b c xs (a c xs e)
theorem Tups.upd {H H' : Hp} {p : Addr} {o : HO} (a : Tups H H') (n : ∀ xs, H' p ≠ some (.tup xs)) : Tups H (L2.upd H' p o) := fun c xs e => by
  have e1 := a c xs e
  rw [upd_ne (fun z => n xs (by rw [← z]; exact e1))]
  exact e1
theorem PAt.keep {H H' : Hp} (h : Tups H H') : ∀ {ts : List Addr} {ps : List Pr}, PAt H ts ps → PAt H' ts ps
  | _, _, .nil => .nil
  | _, _, .cons e t => .cons (h _ _ e) (PAt.keep h t)
theorem PAt.length {H : Hp} {ts : List Addr} {ps : List Pr} (h : PAt H ts ps) : ts.length = ps.length := Paired.length h
theorem PAt.append {H : Hp} : ∀ {ts us : List Addr} {ps qs : List Pr}, PAt H ts ps → PAt H us qs → PAt H (ts ++ us) (ps ++ qs)
  | _, _, _, _, .nil, s => s
  | _, _, _, _, .cons e t, s => .cons e (PAt.append t s)
theorem PAt.set {H : Hp} {t : Addr} {p : Pr} (e : H t = some (.tup (prV p))) : ∀ {ts : List Addr} {ps : List Pr} (i : Nat), PAt H ts ps → PAt H (ts.set i t) (ps.set i p)
  | _, _, _, .nil => .nil
  | _, _, 0, .cons _ r => .cons e r
  | _, _, i + 1, .cons a r => .cons a (PAt.set e i r)
theorem PAt.rep {H : Hp} {ts : List Addr} {ps : List Pr} (h : PAt H ts ps) : ∀ n : Nat, PAt H (List.replicate n ts).flatten (List.replicate n ps).flatten
  | 0 => .nil
  | n + 1 => by
    rw [List.replicate_succ, List.replicate_succ, List.flatten_cons, List.flatten_cons]
    exact PAt.append h (PAt.rep h n)
theorem PAt.get {H : Hp} : ∀ {ts : List Addr} {ps : List Pr} {i : Nat} {t : Addr}, PAt H ts ps → ts[i]? = some t → ∃ p, ps[i]? = some p ∧ H t = some (.tup (prV p))
  | _, _, i, t, .nil, h => by cases h
  | _, _, 0, t, .cons e r, h => by
    have z := Option.some.inj h
    subst z
    exact ⟨_, rfl, e⟩
  | _, _, i + 1, t, .cons e r, h => PAt.get (i := i) r (by simpa using h)
theorem refs_get {ts : List Addr} {i : Nat} {y : V} (h : (ts.map V.ref)[i]? = some y) : ∃ t, ts[i]? = some t ∧ y = .ref t := by
  rw [List.getElem?_map] at h
  cases e : ts[i]? with
  | none => rw [e] at h; cases h
  | some u => rw [e] at h; exact ⟨u, rfl, (Option.some.inj h).symm⟩
theorem LAt.keep {H H' : Hp} {l : Addr} {ps : List Pr} (h : Tups H H') (e : H' l = H l) (a : LAt H l ps) : LAt H' l ps := let ⟨ts, h1, h2⟩ := a; ⟨ts, e.trans h1, h2.keep h⟩
theorem LAt.same {H H' : Hp} {l : Addr} {ps : List Pr} (h : Same H H') (a : LAt H l ps) : LAt H' l ps := let ⟨ts, h1, h2⟩ := a; ⟨ts, h _ _ h1, h2.keep (.of h)⟩
theorem LAt.at {H : Hp} {l : Addr} {ps : List Pr} (a : LAt H l ps) : ∃ ts : List Addr, H l = some (.lst (ts.map V.ref)) ∧ ts.length = ps.length := let ⟨ts, h1, h2⟩ := a; ⟨ts, h1, h2.length⟩
theorem RAt.same {H H' : Hp} {cR p l : Addr} {ps : List Pr} (h : Same H H') (a : RAt cR H p l ps) : RAt cR H' p l ps := let ⟨dx, h1, h2⟩ := a; ⟨dx, h _ _ h1, h2.same h⟩
theorem RAt.keep {H H' : Hp} {cR p l : Addr} {ps : List Pr} (h : Tups H H') (e : H' p = H p) (e2 : H' l = H l) (a : RAt cR H p l ps) : RAt cR H' p l ps := let ⟨dx, h1, h2⟩ := a; ⟨dx, e.trans h1, h2.keep h e2⟩
/-- what list(zip(signs, heights)) gives -/
theorem zkv_pairs {H : Hp} {ts : List Addr} {x : Str} {ns : List Int} (h : Paired (fun (t : Addr) (u : Key × V) => H t = some (.tup [kV u.1, u.2])) ts (zkv x (ns.map V.int))) : PAt H ts (x.cps.toList.zip ns) := by
  unfold zkv at h
  generalize x.cps.toList = cs at h ⊢
  induction cs generalizing ts ns with
  | nil => cases h; exact .nil
  | cons c cs ih =>
    cases ns with
    | nil => cases h; exact .nil
    | cons n ns =>
      cases h with
      | cons e r => exact .cons e (ih r)
theorem join_signs (ps : List Pr) : Txt.join "" (ps.map fun p => (⟨#[p.1]⟩ : Str)) = tx ps := by
  have h := join0 (ps.map fun p => (⟨#[p.1]⟩ : Str))
  have e : ((ps.map fun p => (⟨#[p.1]⟩ : Str)).map fun y => y.cps.toList).flatten = ps.map (·.1) := by
    rw [List.map_map]
    clear h
    induction ps with
    | nil => rfl
    | cons p ps ih => rw [List.map_cons, List.flatten_cons, ih]; rfl
  rw [e] at h
  generalize Txt.join "" (ps.map fun p => (⟨#[p.1]⟩ : Str)) = j at h
  cases j with
  | mk a =>
    have h2 : a = (ps.map (·.1)).toArray := by
      rw [← h]
    rw [h2]
    rfl
theorem zip_tx {z : Str} {ns : List Int} (h : ns.length = z.length) : (z.cps.toList.zip ns).map (·.1) = z.cps.toList := by
  rw [List.map_fst_zip]
  rw [h]
  exact Nat.le_refl _
theorem zip_hts {z : Str} {ns : List Int} (h : ns.length = z.length) : (z.cps.toList.zip ns).map (·.2) = ns := by
  rw [List.map_snd_zip]
  rw [h]
  exact Nat.le_refl _
theorem tx_hts_zip (ps : List Pr) : (tx ps).cps.toList.zip (hts ps) = ps := by
  rw [tx_list]
  induction ps with
  | nil => rfl
  | cons p ps ih =>
    show (p.1, p.2) :: _ = _
    exact congrArg (p :: ·) ih
/-- a height that is none -/
def badH (n : Int) : Bool := decide (n < 0) || decide (9 < n)
/-- what becomes of Row(z, ns) -/
inductive RR | sign (i : Nat) | uneven | height (n : Int) | row
def rr (z : Str) (ns : List Int) : RR := match fo z with
  | some i => .sign i
  | none => if ns.length ≠ z.length then .uneven else match ns.find? badH with
    | some n => .height n
    | none => .row
theorem rr_good {ps : List Pr} (h : GoodR ps) : rr (tx ps) (hts ps) = .row := by
  have e1 : fo (tx ps) = none := fo_none fun j c hj => by
    rw [tx_list, List.getElem?_map] at hj
    cases e : ps[j]? with
    | none => rw [e] at hj; cases hj
    | some p =>
      rw [e] at hj
      have e2 := Option.some.inj hj
      rw [← e2]
      exact (h p (List.mem_of_getElem? e)).1
  have e2 : (hts ps).find? badH = none := by
    rw [List.find?_eq_none]
    intro n hn
    obtain ⟨p, hp, rfl⟩ := List.mem_map.mp hn
    have h2 := (h p hp).2
    unfold badH
    simp
    omega
  unfold rr
  rw [e1]
  dsimp only
  rw [if_neg (by rw [tx_len, hts_len]; simp), e2]
end Rz
namespace Rz
open PySem PySem.Spec PyProof.Rows L2
/-- a comprehension over such a list -/
theorem lc_pairs {K : PySem.W.Frag} {l : Addr} {ps : List Pr} {g : TG} {te : TE} {vs : List Nat} {σ : L2.St} {H1 : Hp} {D : Addr} {Qd : Hp → Prop} (f : Pr → V) (hL : LAt H1 l ps) (hz : ps.length ≤ sizeLine) (hD : H1 D = none)
    (body : ∀ (t : Addr) (p : Pr) (H : Hp) (Q : VK), p ∈ ps → Same H1 H → H t = some (.tup (prV p)) → (∀ H4, Same H H4 → Q (f p) H4) → g (.ref t) (wipe σ vs) H fun σ2 H2 => wipe σ2 vs = wipe σ vs ∧ te σ2 H2 Q)
    (hd : ∀ H, Same H1 H → H D = some (.lst (ps.map f)) → Qd H) :
    ∃ W : Nat → Nat → Hp → Prop, (∃ m, W 0 m (upd H1 D (.lst []))) ∧ ∀ i m H, W i m H →
      ((Itl K l).stop i H ∧ Qd H) ∨ ((Itl K l).go i H ∧ ∃ Nx : Hp → Prop, (∀ H', Nx H' → ∃ m', m' < m ∧ W (i + 1) m' H') ∧ ∀ x H', (Itl K l).yld i H x H' → g x (wipe σ vs) H' fun σ2 H2 => wipe σ2 vs = wipe σ vs ∧ tYes σ2 H2 fun b H3 =>
        if b = true then te σ2 H3 fun y H4 => ∃ acc, H4 D = some (.lst acc) ∧ acc.length < sizeLine ∧ Nx (upd H4 D (.lst (acc ++ [y]))) else Nx H3) := by
  obtain ⟨ts, hl, hP⟩ := hL
  refine lc_list (K := K) (a := l) (xs := ts.map V.ref) (fun i H => Same H1 H ∧ H D = some (.lst ((ps.take i).map f))) ⟨Rz.Same.new (Same.refl H1) hD, upd_same⟩ (fun i H _ h => SqL.of (h.1 _ _ hl)) (fun i x H hx h => ?_) (fun H h => hd H h.1 ?_)
  · obtain ⟨S, e⟩ := h
    obtain ⟨t, ht, rfl⟩ := refs_get hx
    obtain ⟨p, hp, h2⟩ := hP.get ht
    have hi : i < ps.length := (List.getElem?_eq_some_iff.mp hp).1
    refine body t p H _ (List.mem_of_getElem? hp) S (S _ _ h2) fun H4 S4 => ⟨_, S4 _ _ e, ?_, Rz.Same.upd (S.trans S4) hD, ?_⟩
    · rw [List.length_map, List.length_take]
      omega
    · rw [upd_same, List.take_add_one, hp, List.map_append]
      rfl
  · have := h.2
    rw [List.length_map, hP.length, List.take_length] at this
    exact this
end Rz
namespace Rz
open PySem PySem.Spec PyProof.Rows L2
theorem LAt.but {D : List Addr} {H H' : Hp} {l : Addr} {ps : List Pr} (a : LAt H l ps) (B : But D H H') (n : l ∉ D) (t : Tups H H') : LAt H' l ps := let ⟨ts, h1, h2⟩ := a; ⟨ts, B.at h1 n, h2.keep t⟩
theorem RAt.but {D : List Addr} {H H' : Hp} {cR p l : Addr} {ps : List Pr} (a : RAt cR H p l ps) (B : But D H H') (n1 : p ∉ D) (n2 : l ∉ D) (t : Tups H H') : RAt cR H' p l ps := let ⟨dx, h1, h2⟩ := a; ⟨dx, B.at h1 n1, h2.but B n2 t⟩
theorem LAt.upd {H : Hp} {l q : Addr} {ps : List Pr} {o : HO} (a : LAt H l ps) (n : l ≠ q) (t : ∀ xs, H q ≠ some (.tup xs)) : LAt (L2.upd H q o) l ps := let ⟨ts, h1, h2⟩ := a; ⟨ts, by rw [upd_ne n]; exact h1, h2.keep (Tups.upd (fun _ _ e => e) t)⟩
theorem RAt.upd {H : Hp} {cR p l q : Addr} {ps : List Pr} {o : HO} (a : RAt cR H p l ps) (n1 : p ≠ q) (n2 : l ≠ q) (t : ∀ xs, H q ≠ some (.tup xs)) : RAt cR (L2.upd H q o) p l ps := let ⟨dx, h1, h2⟩ := a; ⟨dx, by rw [upd_ne n1]; exact h1, h2.upd n2 t⟩
theorem Dr.but {D : List Addr} {H H' : Hp} {d : Addr} (a : Dr H d) (B : But D H H') (n : d ∉ D) : Dr H' d := let ⟨ns, h1, h2⟩ := a; ⟨ns, B.at h1 n, h2⟩
theorem Dr.upd {H : Hp} {d q : Addr} {o : HO} (a : Dr H d) (n : d ≠ q) : Dr (L2.upd H q o) d := let ⟨ns, h1, h2⟩ := a; ⟨ns, by rw [upd_ne n]; exact h1, h2⟩
theorem LAt.isL {H : Hp} {l : Addr} {ps : List Pr} (a : LAt H l ps) : ∃ xs, H l = some (.lst xs) := let ⟨ts, h1, _⟩ := a; ⟨_, h1⟩
theorem RAt.isI {H : Hp} {cR p l : Addr} {ps : List Pr} (a : RAt cR H p l ps) : ∃ dx fs, H p = some (.ins cR dx fs) := let ⟨dx, h1, _⟩ := a; ⟨dx, _, h1⟩
theorem RAt.lst {H : Hp} {cR p l : Addr} {ps : List Pr} (a : RAt cR H p l ps) : LAt H l ps := let ⟨_, _, h⟩ := a; h
theorem Dr.isL {H : Hp} {d : Addr} (a : Dr H d) : ∃ xs, H d = some (.lst xs) := let ⟨ns, h1, _⟩ := a; ⟨_, h1⟩
/-- a list and a row stand apart -/
theorem apartLI {H : Hp} {l p cR m : Addr} {ps : List Pr} (h : ∃ xs, H l = some (.lst xs)) (r : RAt cR H p m ps) : l ≠ p := by
  obtain ⟨xs, e⟩ := h
  obtain ⟨dx, fs, e2⟩ := r.isI
  exact ne_of e e2 fun z => nomatch z
theorem apartLT {H : Hp} {l t : Addr} {ys : List V} (h : ∃ xs, H l = some (.lst xs)) (e2 : H t = some (.tup ys)) : l ≠ t := by
  obtain ⟨xs, e⟩ := h
  exact ne_of e e2 fun z => nomatch z
theorem apartNew {H : Hp} {x y : Addr} (h : ∃ o, H x = some o) (n : H y = none) : x ≠ y := let ⟨_, e⟩ := h; ne_of_none e n
theorem LAt.some {H : Hp} {l : Addr} {ps : List Pr} (a : LAt H l ps) : ∃ o, H l = Option.some o := let ⟨ts, h1, _⟩ := a; ⟨_, h1⟩
theorem RAt.some {H : Hp} {cR p l : Addr} {ps : List Pr} (a : RAt cR H p l ps) : ∃ o, H p = Option.some o := let ⟨dx, h1, _⟩ := a; ⟨_, h1⟩
theorem Dr.some {H : Hp} {d : Addr} (a : Dr H d) : ∃ o, H d = Option.some o := let ⟨ns, h1, _⟩ := a; ⟨_, h1⟩
theorem not_tupL {H : Hp} {l : Addr} (h : ∃ xs, H l = some (.lst xs)) : ∀ xs, H l ≠ some (.tup xs) := fun ys e => by
  obtain ⟨xs, e2⟩ := h
  rw [e2] at e
  cases e
theorem not_tupI {H : Hp} {cR p l : Addr} {ps : List Pr} (r : RAt cR H p l ps) : ∀ xs, H p ≠ some (.tup xs) := fun ys e => by
  obtain ⟨dx, fs, e2⟩ := r.isI
  rw [e2] at e
  cases e
theorem not_tupN {H : Hp} {p : Addr} (h : H p = none) : ∀ xs, H p ≠ some (.tup xs) := fun ys e => by
  rw [h] at e
  cases e
theorem tups1 {H H' : Hp} {x : Addr} (B : But [x] H H') (n : ∀ xs, H x ≠ some (.tup xs)) : Tups H H' := Tups.but B fun d hd xs => by
  have e : d = x := by simpa using hd
  rw [e]
  exact n xs
theorem nin1 {x y : Addr} (n : x ≠ y) : x ∉ [y] := by simpa using n
end Rz

namespace Rz
open PySem PySem.Spec PyProof.Rows L2
/-! ### slice objects as values; own classes that are asked with slices -/
theorem sl_ga_slot : Slot "slice" "__getattribute__" "slice.__getattribute__" :=
  .of (owner := "slice") (n := "__getattribute__") (by rw [typeLookup_type, builtinLookup_eq_fast]; kernel_rfl) (by decide +kernel) (by decide +kernel) (by decide +kernel) (by first | exact .inl (by decide +kernel) | exact .inr (by decide +kernel)) (by rw [isSubtype_type]; kernel_rfl)
theorem sl_ga_args (a b : Value) : argsOk "slice.__getattribute__" ⟨[a, b], []⟩ := by unfold argsOk; kernel_rfl
theorem sl_ga_entry : entryFor table "slice.__getattribute__" = some Builtin.«object.__getattribute__» := entryFor_alias (id' := "object.__getattribute__") (by kernel_rfl) (by first | rfl | decide +kernel) (by decide +kernel) (by kernel_rfl)
theorem sl_lk_class : typeLookup (.type "slice") "__class__" = pure (some (.builtin "object.__class__")) := by rw [typeLookup_type, builtinLookup_eq_fast]; kernel_rfl
theorem sl_sub_owner : isSubtype (.type "slice") (.type (".".intercalate ("object.__class__".cutAt '.').dropLast)) = pure true := by rw [F.owner_object_class, isSubtype_type]; kernel_rfl
section
variable {prog : Program} {w : World} {A : Around} {E : Value → Shared → Prop} {h : Heap} {g : Array GenState} {d : Drawn} {t : Nat} {os : OsState} {a : Addr} {o : Obj}
theorem sl_class_get {R : Result → Shared → Prop} (hx : h.get? a = some o) (hc : o.cls = .type "slice") (hq : R (.ok (.ret (.type "slice"))) ⟨h, g, d, t, os⟩) : codeAny (model prog w) A (.call (.builtin "getset_descriptor.__get__") ⟨[.builtin "object.__class__", .ref a, .type "slice"], []⟩) R ⟨h, g, d, t, os⟩ := by
  have hTs : (⟨h, g, d, t, os⟩ : Shared).TypeIs (.ref a) "slice" := ⟨_, hx, hc⟩
  have hTg : (⟨h, g, d, t, os⟩ : Shared).TypeIs (.builtin "object.__class__") "getset_descriptor" := F.typeOf_object_class
  have f1 := sl_sub_owner
  refine codeAny_call_builtin F.slot_gs_get.plain F.entry_gs_get (F.slot_gs_get.check _ _ _ _ _ _ _ _ hTg (F.args_gs_get _ _ _) ?_)
  repeat (any_goals (first | assumption | wp_step))
  refine ⟨Code.quiet_builtin _ (by decide +kernel), codeAny_builtin F.entry_object_class ?_⟩
  repeat (any_goals (first | assumption | wp_step))
theorem sl_class_entry {tk : Tok} {Q : Fin → Shared → Prop} (hx : h.get? a = some o) (hc : o.cls = .type "slice") (hq : Q (.done (.ret (.type "slice"))) ⟨h, g, d, t, os⟩) : wpAny (model prog w) A (Builtin.«object.__getattribute__» ⟨[.ref a, .str "__class__" tk], []⟩) Q E ⟨h, g, d, t, os⟩ := by
  have hTs : (⟨h, g, d, t, os⟩ : Shared).TypeIs (.ref a) "slice" := ⟨_, hx, hc⟩
  have hTg : (⟨h, g, d, t, os⟩ : Shared).TypeIs (.builtin "object.__class__") "getset_descriptor" := F.typeOf_object_class
  have f1 := sl_lk_class
  have f2 := F.typeOf_object_class
  have f3 := F.slot_gs_get.lookup
  have f4 := F.slot_gs_set.lookup
  repeat (any_goals (first | assumption | wp_step))
  refine sl_class_get hx hc ?_
  repeat (any_goals (first | assumption | wp_step))
theorem sl_class_call {tk : Tok} {R : Result → Shared → Prop} (hx : h.get? a = some o) (hc : o.cls = .type "slice") (hq : R (.ok (.ret (.type "slice"))) ⟨h, g, d, t, os⟩) : codeAny (model prog w) A (.call (.builtin "slice.__getattribute__") ⟨[.ref a, .str "__class__" tk], []⟩) R ⟨h, g, d, t, os⟩ :=
  codeAny_call_builtin sl_ga_slot.plain sl_ga_entry (sl_ga_slot.check _ _ _ _ _ _ _ _ (show (⟨h, g, d, t, os⟩ : Shared).TypeIs (.ref a) "slice" from ⟨_, hx, hc⟩) (sl_ga_args _ _) (sl_class_entry hx hc hq))
theorem sl_class_by {tk : Tok} {Q : Value → Shared → Prop} (hx : h.get? a = some o) (hc : o.cls = .type "slice") (hq : Q (.type "slice") ⟨h, g, d, t, os⟩) : wpAny (model prog w) A (getAttrBy (.ref a) (.str "__class__" tk) false) Q E ⟨h, g, d, t, os⟩ := by
  have hTs : (⟨h, g, d, t, os⟩ : Shared).TypeIs (.ref a) "slice" := ⟨_, hx, hc⟩
  have f1 := sl_ga_slot.lookup
  have f2 := sl_ga_slot.bind (.ref a)
  repeat (any_goals (first | assumption | wp_step))
  refine sl_class_call hx hc ?_
  repeat (any_goals (first | assumption | wp_step))
theorem sl_class_attr {Q : Option Value → Shared → Prop} (hx : h.get? a = some o) (hc : o.cls = .type "slice") (hq : Q (some (.type "slice")) ⟨h, g, d, t + 1, os⟩) : wpAny (model prog w) A (getAttr? (.ref a) "__class__") Q E ⟨h, g, d, t, os⟩ := by
  unfold getAttr? getAttrBy?
  repeat (any_goals (first | assumption | with_reducible apply sl_class_by hx hc | wp_step))
end
/-- the slice lo:hi stands at a -/
def SlO (a : Addr) (lo hi : Int) : HO := .ext fun h => ∃ t u, h.IsSliceOf a (.int lo t) (.int hi u) .none
theorem slO_ok {P : Program} {w : World} {H : Hp} {h : Heap} {a : Addr} {lo hi : Int} {t u : Tok} (e : h.IsSliceOf a (.int lo t) (.int hi u) .none) : ObjOk P w H h a (SlO a lo hi) := by
  obtain ⟨o, e1, r⟩ := e
  exact ⟨⟨t, u, o, e1, r⟩, ⟨o, e1⟩, fun h1 h2 ⟨t, u, o, e1, r⟩ k => ⟨t, u, o, k _ e1, r⟩⟩
theorem slO_get {X : Cx} {pins : List (Addr × Obj)} {σ : L2.St} {H : Hp} {s : Shared} {a : Addr} {lo hi : Int} (I : Inv X pins σ H s) (e : H a = some (SlO a lo hi)) : ∃ t u, s.heap.IsSliceOf a (.int lo t) (.int hi u) .none := by
  obtain ⟨p, _, _⟩ := (show ObjOk X.prog X.w H s.heap a (SlO a lo hi) from I.hok a _ e)
  exact p
section
variable {X : Cx} {k : Nat} {f C : Addr} {fd : FuncData} {ps : List Str} {sp : Sp}
/-- isinstance(x, T) of a slice -/
theorem call_isiSl : CallR X (.builtin "isinstance") (fun xs H Q => ∃ (a : Addr) (lo hi : Int) (c : V) (u : Value) (b : Bool), xs = [.ref a, c] ∧ ClsV c u ∧ H a = some (SlO a lo hi) ∧ PySem.W.kitOne X.K (.type "slice") u = some b ∧ Q (.bl b) H) := by
  intro pins s σ H xs us Q I r h
  obtain ⟨a, lo, hi, c, u, b, rfl, kc, ea, e, q⟩ := h
  obtain ⟨u1, u2, rfl, r1, r2⟩ := vals2 r
  have e2 := kc.eq r2
  subst e2
  obtain rfl : u1 = Value.ref a := r1
  obtain ⟨t, u, o, e1, hc, _⟩ := slO_get I ea
  have Z : PySem.W.KitX X.K (.ref a) (.type "slice") (PySem.W.KitAt a "slice") := PySem.W.kitx_of PySem.W.kitAt_ty (fun {_ _ _ _ _ s} p k => by obtain ⟨h, g, d, t, os⟩ := s; obtain ⟨o, h1, h2⟩ := p; exact sl_class_attr h1 h2 k)
  exact PySem.W.kia_one Z I.kIn ⟨o, e1, hc⟩ e (fun z => nomatch z) fun tk => ⟨.bl b, H, I.tok tk, rfl, q⟩
/-- xs[s] of a list, s a slice -/
theorem ix_sliceV : IxR X (fun x y H Q => ∃ (p sl : Addr) (lo hi : Int) (xs : List V), x = .ref p ∧ y = .ref sl ∧ SqL X.K H p xs ∧ H sl = some (SlO sl lo hi) ∧ ∀ q, H q = none → Q (.ref q) (upd H q (.lst (cutV xs (some lo) (some hi))))) := by
  intro value slice pins s σ H x y v u Q I rx ry h hs
  obtain ⟨p, sl, lo, hi, xs, rfl, rfl, hq, es, q⟩ := h
  cases rx
  cases ry
  obtain ⟨t, u, hsl⟩ := slO_get I es
  obtain ⟨its, r, pl, hz⟩ := I.list hq
  have hlen := r.length
  refine tail_any (ops := [.ref p, .ref sl]) pl.isList.typeIs slot_list_getitem.lookup ?_ hs
  refine wpAny_getItem_list_slice pl.isList hsl (.int _ _) (.int _ _) .none (by simp) ?_ (by rw [List.size_toArray] <;> omega)
  rw [slicePick_cut, ← hlen]
  refine ⟨.ref s.heap.objs.size, _, I.laid (t' := s.toks) (o := .lst (cutV xs (some lo) (some hi))) (fun b ob q => Heap.get?_push_of_some _ q) (Nat.le_refl _) ?_, rfl, q _ (I.hok.fresh (Nat.le_refl _))⟩
  exact ⟨Nat.le_trans (cutV_length xs _ _) hz, _, 0, (r.drop _).take _, Heap.get?_push_size _ rfl⟩
/-- xs[s] = ys of lists, s a slice -/
theorem set_sliceV : PSet X (fun o i v H Q => ∃ (l b sl : Addr) (lo hi : Int) (xs ys : List V), o = .ref l ∧ i = .ref sl ∧ v = .ref b ∧ H l = some (.lst xs) ∧ H b = some (.lst ys) ∧ H sl = some (SlO sl lo hi) ∧ l ≠ b ∧ 0 ≤ lo ∧ lo ≤ hi ∧ hi ≤ xs.length ∧ xs.length + ys.length ≤ sizeLine ∧
    Q (upd H l (.lst (xs.take lo.toNat ++ ys ++ xs.drop hi.toNat)))) := by
  intro pins s σ H o i v ov iv u Q I r1 r2 r3 h
  obtain ⟨l, b, sl, lo, hi, xs, ys, rfl, rfl, rfl, hl, hb, es, ne, h0, h1, h2, hz, q⟩ := h
  cases r1
  cases r2
  cases r3
  obtain ⟨t, u, hsl⟩ := slO_get I es
  exact set_slice I hl hb ne hsl ⟨_, rfl⟩ ⟨_, rfl⟩ h0 h1 h2 hz fun s' I' => ⟨_, I', q⟩
variable {e : Expr} {lo hi : Expr} {te : TE} {tl th : TE} {pos p2 : Pos}
theorem sub_own {x : Addr} {h₀ : Heap} {L : Addr} {m : Str → Option Value} {od : Option Obj} {ox : Obj} {prog : Program} {w : World} {A : Around} {E : Value → Shared → Prop} {s : Shared} {K : PySem.W.Frag} {value lo hi : Expr} {i : Value} {Q : Value → Shared → Prop} (hF : Fr h₀ L s.heap m) (hX : K.In h₀) (J : PySem.W.InstAt s.heap x ox C od) (M : Meth K C "__getitem__" f) (hn : PySem.W.noSeq K C = true) (hf : PySem.W.fnIn K f = true)
    (h : wpAny (model prog w) A (call (.ref f) [.ref x, i]) Q E s) : wpAny (model prog w) A (subscriptTail value (.Slice (some lo) (some hi) none p2) (.ref x) i) Q E s := by
  have Y := hX.keeps hF.keep
  unfold PySem.W.fnIn at hf
  split at hf
  · rename_i ef
    unfold subscriptTail getitemInPython
    refine wpAny_bind (wpAny_bind (wpAny_bind (J.type.here ((PySem.W.looks_findIn Y M.at_).here ?_))))
    dsimp only
    refine wpAny_bind (wpAny_load (Y _ _ ef) (wpAny_pure ?_))
    dsimp only
    show wpAny _ _ (operate [i, .ref x] (getItem (.ref x) i) >>= _) _ _ _
    refine wpAny_bind (wpAny_operating (PySem.W.getItem_K hF hX J hn M.at_ M.fn (wpAny_mono h (fun v s' z => ?_) fun _ _ z => z)))
    exact wpAny_bind (wpAny_letTemporaryGo (wpAny_pure z))
  · cases hf
theorem fn_in {x qual : Str} {st : Stmt} {g : Addr} {K : PySem.W.Frag} {gd : FuncData} (F : Fun K x qual st g gd) : PySem.W.fnIn K g = true := by
  obtain ⟨_, _, _, _, _, _, _, _, _, _, lk, _⟩ := F.ex
  unfold PySem.W.fnIn
  rw [lk]
/-- x[lo:hi] by the own __getitem__, nothing is raised -/
def tSlG (C : Addr) (sp : Sp) (te tl th : TE) : TE := fun σ H Q => te σ H fun x H1 => tl σ H1 fun l H2 => ∃ i, l = .int i ∧ th σ H2 fun u H3 => ∃ j, u = .int j ∧ ∃ (a dx : Addr) (fs : List (Str × V)), x = .ref a ∧ H3 a = some (.ins C dx fs) ∧ ∀ sl, H3 sl = none → sp [.ref a, .ref sl] (upd H3 sl (SlO sl i j)) Q E0
theorem pe_sliceG (M : Meth X.K C "__getitem__" f) (hn : PySem.W.noSeq X.K C = true) (hf : PySem.W.fnIn X.K f = true) (G : FnOk X.prog X.w X.K X.mg X.base (L2.CX X.prog X.w) k f fd ps sp) (hr : Room k X.A) (hb : Binds X.K fd ps []) (he : PE X e te) (hl : PE X lo tl) (hu : PE X hi th) : PE X (.Subscript e (.Slice (some lo) (some hi) none p2) pos) (tSlG C sp te tl th) := by
  refine ⟨fun pins s σ H Q I h => ?_⟩
  refine Subscript_ (thn (he.run pins s σ H _ I h) fun v s1 ⟨x, H1, I1, r1, q1⟩ => ?_)
  refine wpAny_Slice ?_
  rw [evalPart_some, evalPart_some, evalPart_none]
  refine thn (hl.run pins s1 σ H1 _ I1 q1) fun vl s2 ⟨l, H2, I2, r2, i, el, q2⟩ => thn (hu.run pins s2 σ H2 _ I2 q2) fun vu s3 ⟨u, H3, I3, r3, j, eu, a, dx, fs, ex, ea, q3⟩ => ?_
  subst el eu ex
  obtain ⟨t2, rfl⟩ := r2
  obtain ⟨t3, rfl⟩ := r3
  obtain rfl : v = Value.ref a := r1
  refine wpAny_pure ?_
  have nsl : H3 s3.heap.objs.size = none := I3.hok.fresh (Nat.le_refl _)
  have I4 := I3.laid (t' := s3.toks) (o := SlO s3.heap.objs.size i j) (fun b ob q => Heap.get?_push_of_some { cls := .type "slice", data := .fields #[.int i t2, .int j t3, .none] } q) (Nat.le_refl _) (slO_ok (Heap.IsSliceOf.new ..))
  have ea4 : upd H3 s3.heap.objs.size (SlO s3.heap.objs.size i j) a = some (.ins C dx fs) := by rw [upd_ne (ne_of_none ea nsl)]; exact ea
  obtain ⟨od, J⟩ := inst_at I4 ea4
  obtain ⟨m0, hF⟩ := I4.fr
  exact sub_own hF I4.ok.mod.kin J M hn hf (run_below (vs := [.ref a, .ref s3.heap.objs.size]) G hr rfl hb I4 (.cons rfl (.cons rfl .nil)) (q3 _ nsl))
/-- x[lo:hi] = v by the own __setitem__, nothing is raised -/
def gSlS (C : Addr) (sp : Sp) (te tl th : TE) : TG := fun v σ H Q => te σ H fun x H1 => tl σ H1 fun l H2 => ∃ i, l = .int i ∧ th σ H2 fun u H3 => ∃ j, u = .int j ∧ ∃ (a dx : Addr) (fs : List (Str × V)), x = .ref a ∧ H3 a = some (.ins C dx fs) ∧ ∀ sl, H3 sl = none → sp [.ref a, .ref sl, v] (upd H3 sl (SlO sl i j)) (fun _ H' => Q σ H') E0
theorem pg_sliceS (M : Meth X.K C "__setitem__" f) (hn : PySem.W.noSeq X.K C = true) (G : FnOk X.prog X.w X.K X.mg X.base (L2.CX X.prog X.w) k f fd ps sp) (hr : Room k X.A) (hb : Binds X.K fd ps []) (he : PE X e te) (hl : PE X lo tl) (hu : PE X hi th) : PG X (.Subscript e (.Slice (some lo) (some hi) none p2) pos) (gSlS C sp te tl th) := by
  refine ⟨fun pins s σ H v w Q I r h => ?_⟩
  show wpAny _ _ (do
    let ov ← holding [w] (eval e X.env)
    let iv ← holding [w, ov] (eval (.Slice (some lo) (some hi) none p2) X.env)
    standAt pos
    holding [w, ov, iv] (setItem ov iv w)
    release [iv, w, ov] []) _ _ _
  refine wpAny_bind (wpAny_holding (thn (he.run pins s σ H _ I h) fun ov s1 ⟨x, H1, I1, r1, q1⟩ => ?_))
  refine wpAny_bind (wpAny_holding (wpAny_Slice ?_))
  rw [evalPart_some, evalPart_some, evalPart_none]
  refine thn (hl.run pins s1 σ H1 _ I1 q1) fun vl s2 ⟨l, H2, I2, r2, i, el, q2⟩ => thn (hu.run pins s2 σ H2 _ I2 q2) fun vu s3 ⟨u, H3, I3, r3, j, eu, a, dx, fs, ex, ea, q3⟩ => ?_
  subst el eu ex
  obtain ⟨t2, rfl⟩ := r2
  obtain ⟨t3, rfl⟩ := r3
  obtain rfl : ov = Value.ref a := r1
  refine wpAny_pure ?_
  have nsl : H3 s3.heap.objs.size = none := I3.hok.fresh (Nat.le_refl _)
  have I4 := I3.laid (t' := s3.toks) (o := SlO s3.heap.objs.size i j) (fun b ob q => Heap.get?_push_of_some { cls := .type "slice", data := .fields #[.int i t2, .int j t3, .none] } q) (Nat.le_refl _) (slO_ok (Heap.IsSliceOf.new ..))
  have ea4 : upd H3 s3.heap.objs.size (SlO s3.heap.objs.size i j) a = some (.ins C dx fs) := by rw [upd_ne (ne_of_none ea nsl)]; exact ea
  obtain ⟨od, J⟩ := inst_at I4 ea4
  obtain ⟨m0, hF⟩ := I4.fr
  refine wpAny_bind (wpAny_standAt (wpAny_bind (wpAny_holding (PySem.W.ksp_setItem hF I4.ok.mod.kin J hn M.at_ M.fn (wpAny_mono (run_below (vs := [.ref a, .ref s3.heap.objs.size, v]) G hr rfl hb I4 (.cons rfl (.cons rfl (.cons r .nil))) (q3 _ nsl)) (fun r s' hv => ?_) fun _ _ z => z)))))
  obtain ⟨z, H', J', rz, q⟩ := hv
  exact wpAny_release ⟨σ, H', J', q⟩
/-- x[i] by the own __getitem__, that may raise -/
def tGetO (C : Addr) (sp : Sp) (E : EX) (te ti : TE) : TE := fun σ H Q => te σ H fun x H1 => ti σ H1 fun i H2 => ∃ (a dx : Addr) (fs : List (Str × V)), x = .ref a ∧ H2 a = some (.ins C dx fs) ∧ sp [.ref a, i] H2 Q (E σ)
theorem pe_getO {CX : CXT} {E : EX} {b : Expr} {ti : TE} (M : Meth X.K C "__getitem__" f) (hf : PySem.W.fnIn X.K f = true) (G : FnOk X.prog X.w X.K X.mg X.base CX k f fd ps sp) (hr : Room (k + 1) X.A) (hb : Binds X.K fd ps []) (hx : ∀ σ, PassesAt CX X σ (E σ)) (he : PE X e te) (hi : PE X b ti)
    (hsl : ∀ x i, subscripted b true (.ref x) i = runValue (.builtin "lifetime.subscript" ⟨[.ref x, i], []⟩) := by intro _ _; rfl) : PE X (.Subscript e b pos) (tGetO C sp E te ti) := by
  refine ⟨fun pins s σ H Q I h => ?_⟩
  refine Subscript_ (thn (he.run pins s σ H _ I h) fun v s1 ⟨x, H1, I1, r1, q1⟩ => thn (hi.run pins s1 σ H1 _ I1 q1) fun u s2 ⟨y, H2, I2, r2, a, dx, fs, ex, ea, q2⟩ => ?_)
  subst ex
  obtain rfl : v = Value.ref a := r1
  obtain ⟨od, J⟩ := inst_at I2 ea
  obtain ⟨m0, hF⟩ := I2.fr
  exact PySem.W.sub_K hF I2.ok.mod.kin J M.at_ hf M.fn (wpAny_call (codeAny_mono (run_X (vs := [.ref a, y]) G hr.in1 rfl hb .nil (hx σ) I2 (.cons rfl (.cons r2 .nil)) (by rw [List.append_nil]; exact q2)) fun _ _ hq => ended hq)) (hsl _ _)
/-- x[i] = v by the own __setitem__, that may raise -/
def gSetX (C : Addr) (sp : Sp) (E : EX) (te ti : TE) : TG := fun v σ H Q => te σ H fun x H1 => ti σ H1 fun i H2 => ∃ (a dx : Addr) (fs : List (Str × V)), x = .ref a ∧ H2 a = some (.ins C dx fs) ∧ sp [.ref a, i, v] H2 (fun _ H' => Q σ H') (E σ)
theorem pg_setX {CX : CXT} {E : EX} {b : Expr} {ti : TE} (M : Meth X.K C "__setitem__" f) (hn : PySem.W.noSeq X.K C = true) (G : FnOk X.prog X.w X.K X.mg X.base CX k f fd ps sp) (hr : Room k X.A) (hb : Binds X.K fd ps []) (hx : ∀ σ, PassesAt CX X σ (E σ)) (he : PE X e te) (hi : PE X b ti)
    (ha : ∀ v, assign (.Subscript e b pos) X.env v = (do
      let ov ← holding [v] (eval e X.env)
      let iv ← holding [v, ov] (eval b X.env)
      standAt pos
      holding [v, ov, iv] (setItem ov iv v)
      release [v, ov, iv] []) := by intro _; rfl) : PG X (.Subscript e b pos) (gSetX C sp E te ti) := by
  refine ⟨fun pins s σ H v w Q I r h => ?_⟩
  rw [ha]
  refine wpAny_bind (wpAny_holding (thn (he.run pins s σ H _ I h) fun ov s1 ⟨x, H1, I1, r1, q1⟩ => ?_))
  refine wpAny_bind (wpAny_holding (thn (hi.run pins s1 σ H1 _ I1 q1) fun iv s2 ⟨y, H2, I2, r2, a, dx, fs, ex, ea, q2⟩ => ?_))
  subst ex
  obtain rfl : ov = Value.ref a := r1
  obtain ⟨od, J⟩ := inst_at I2 ea
  obtain ⟨m0, hF⟩ := I2.fr
  refine wpAny_bind (wpAny_standAt (wpAny_bind (wpAny_holding (PySem.W.ksp_setItem hF I2.ok.mod.kin J hn M.at_ M.fn (wpAny_mono (run_XC (vs := [.ref a, y, v]) G hr hb .nil (hx σ) I2 (.cons rfl (.cons r2 (.cons r .nil))) (by rw [List.append_nil]; exact q2)) (fun r s' hv => ?_) fun _ _ z => z)))))
  obtain ⟨z, H', J', rz, q⟩ := hv
  exact wpAny_release ⟨σ, H', J', q⟩
end
end Rz
namespace Rz
open PySem PySem.Spec PyProof.Rows L2
theorem PAt.nth {H : Hp} : ∀ {ts : List Addr} {ps : List Pr} {i : Nat} {p : Pr}, PAt H ts ps → ps[i]? = some p → ∃ t, ts[i]? = some t ∧ H t = some (.tup (prV p))
  | _, _, i, p, .nil, h => by cases h
  | _, _, 0, p, .cons e r, h => by
    have z := Option.some.inj h
    subst z
    exact ⟨_, rfl, e⟩
  | _, _, i + 1, p, .cons e r, h => PAt.nth (i := i) r (by simpa using h)
theorem ref_nth {ts : List Addr} {i : Nat} {t : Addr} (h : ts[i]? = some t) : (ts.map V.ref)[i]? = some (.ref t) := by
  rw [List.getElem?_map, h]
  rfl
theorem PAt.take {H : Hp} : ∀ {ts : List Addr} {ps : List Pr} (n : Nat), PAt H ts ps → PAt H (ts.take n) (ps.take n)
  | _, _, 0, _ => .nil
  | _, _, _ + 1, .nil => .nil
  | _, _, n + 1, .cons e r => .cons e (PAt.take n r)
theorem PAt.drop {H : Hp} : ∀ {ts : List Addr} {ps : List Pr} (n : Nat), PAt H ts ps → PAt H (ts.drop n) (ps.drop n)
  | _, _, 0, h => h
  | _, _, _ + 1, .nil => .nil
  | _, _, n + 1, .cons _ r => PAt.drop n r
theorem cutV_nat {xs : List V} {i j : Nat} (h : i ≤ j) (hj : j ≤ xs.length) : cutV xs (some (i : Int)) (some (j : Int)) = (xs.drop i).take (j - i) := by
  have e1 : HT.sIx xs.length 0 (some (i : Int)) = i := by
    unfold HT.sIx
    simp only
    rw [if_neg (by omega), Int.toNat_natCast]
    omega
  have e2 : HT.sIx xs.length xs.length (some (j : Int)) = j := by
    unfold HT.sIx
    simp only
    rw [if_neg (by omega), Int.toNat_natCast]
    omega
  unfold cutV
  rw [e1, e2]
end Rz

namespace Rz
open PySem PySem.Spec PyProof.Rows L2
/-! ### lists of pairs: joined, cut, copied, written out; the heap is let go of -/
theorem cutV_to {xs : List V} {j : Nat} (hj : j ≤ xs.length) : cutV xs none (some (j : Int)) = xs.take j := by
  have e1 : HT.sIx xs.length 0 none = 0 := rfl
  have e2 : HT.sIx xs.length xs.length (some (j : Int)) = j := by
    unfold HT.sIx
    simp only
    rw [if_neg (by omega), Int.toNat_natCast]
    omega
  unfold cutV
  rw [e1, e2, List.drop_zero, Nat.sub_zero]
theorem cutV_from {xs : List V} {i : Nat} (hi : i ≤ xs.length) : cutV xs (some (i : Int)) none = xs.drop i := by
  have e1 : HT.sIx xs.length 0 (some (i : Int)) = i := by
    unfold HT.sIx
    simp only
    rw [if_neg (by omega), Int.toNat_natCast]
    omega
  have e2 : HT.sIx xs.length xs.length none = xs.length := rfl
  unfold cutV
  rw [e1, e2, List.take_of_length_le (by rw [List.length_drop]; exact Nat.le_refl _)]
/-- len(xs), list(xs) of a list, by names that are not opened -/
@[irreducible] def rLenS (K : PySem.W.Frag) : List V → Hp → VK → Prop := fun xs H Q => ∃ p ys, xs = [.ref p] ∧ SqL K H p ys ∧ Q (.int ys.length) H
theorem call_lenS {X : Cx} : CallR X (.builtin "len") (rLenS X.K) := by
  intro pins s σ H xs us Q I r h
  unfold rLenS at h
  obtain ⟨p, ys, e, h1, q⟩ := h
  exact call_len_seq pins s σ H xs us Q I r ⟨p, ys, e, .inl h1, q⟩
@[irreducible] def rListS (K : PySem.W.Frag) : List V → Hp → VK → Prop := fun xs H Q => ∃ p ys, xs = [.ref p] ∧ SqL K H p ys ∧ ∀ l, H l = none → Q (.ref l) (upd H l (.lst ys))
theorem call_listS {X : Cx} : CallR X (.type "list") (rListS X.K) := by
  intro pins s σ H xs us Q I r h
  unfold rListS at h
  obtain ⟨p, ys, e, h1, q⟩ := h
  exact call_list_of pins s σ H xs us Q I r ⟨p, ys, e, .inl h1, q⟩
section
variable {K : PySem.W.Frag} {H : Hp} {l m : Addr} {us vs : List Pr} {Q : VK}
theorem cat_go (hu : LAt H l us) (hv : LAt H m vs) (hz : us.length + vs.length ≤ 1000000) (k : ∀ (p : Addr) (H' : Hp), H p = none → Same H H' → LAt H' p (us ++ vs) → Q (.ref p) H') : rCat (.ref l) (.ref m) H Q := by
  obtain ⟨ts, e1, P1⟩ := hu
  obtain ⟨ws, e2, P2⟩ := hv
  refine ⟨l, m, _, _, rfl, rfl, e1, e2, by rw [List.length_map, List.length_map, P1.length, P2.length, sizeLine_eq]; omega, fun p hp => ?_⟩
  have S := Rz.Same.new (o := .lst (ts.map V.ref ++ ws.map V.ref)) (Same.refl H) hp
  exact k p _ hp S ⟨ts ++ ws, by rw [upd_same, List.map_append], (P1.append P2).keep (Tups.of S)⟩
theorem to_go {j : Nat} (hu : LAt H l us) (hj : j ≤ us.length) (k : ∀ (p : Addr) (H' : Hp), H p = none → Same H H' → LAt H' p (us.take j) → Q (.ref p) H') : rSlL K (.ref l) none (some (j : Int)) H Q := by
  obtain ⟨ts, e1, P1⟩ := hu
  refine ⟨l, _, rfl, SqL.of e1, fun p hp => ?_⟩
  have S := Rz.Same.new (o := .lst (cutV (ts.map V.ref) none (some (j : Int)))) (Same.refl H) hp
  exact k p _ hp S ⟨ts.take j, by rw [upd_same, cutV_to (by rw [List.length_map, P1.length]; exact hj), List.map_take], (P1.take j).keep (Tups.of S)⟩
theorem from_go {i : Nat} {σ : L2.St} (hu : LAt H l us) (hi : i ≤ us.length) (k : ∀ (p : Addr) (H' : Hp), H p = none → Same H H' → LAt H' p (us.drop i) → Q (.ref p) H') : tNoPart σ H fun u H3 => rSlL K (.ref l) (some (i : Int)) u H3 Q := by
  obtain ⟨ts, e1, P1⟩ := hu
  refine ⟨l, _, rfl, SqL.of e1, fun p hp => ?_⟩
  have S := Rz.Same.new (o := .lst (cutV (ts.map V.ref) (some (i : Int)) none)) (Same.refl H) hp
  exact k p _ hp S ⟨ts.drop i, by rw [upd_same, cutV_from (by rw [List.length_map, P1.length]; exact hi), List.map_drop], (P1.drop i).keep (Tups.of S)⟩
theorem mid_go {i j : Nat} (hu : LAt H l us) (hij : i ≤ j) (hj : j ≤ us.length) (k : ∀ (p : Addr) (H' : Hp), H p = none → Same H H' → LAt H' p ((us.drop i).take (j - i)) → Q (.ref p) H') : rSlL K (.ref l) (some (i : Int)) (some (j : Int)) H Q := by
  obtain ⟨ts, e1, P1⟩ := hu
  refine ⟨l, _, rfl, SqL.of e1, fun p hp => ?_⟩
  have S := Rz.Same.new (o := .lst (cutV (ts.map V.ref) (some (i : Int)) (some (j : Int)))) (Same.refl H) hp
  exact k p _ hp S ⟨(ts.drop i).take (j - i), by rw [upd_same, cutV_nat hij (by rw [List.length_map, P1.length]; exact hj), List.map_take, List.map_drop], ((P1.drop i).take (j - i)).keep (Tups.of S)⟩
/-- list(xs) -/
theorem copy_go (hu : LAt H l us) (k : ∀ (p : Addr) (H' : Hp), H p = none → Same H H' → LAt H' p us → Q (.ref p) H') : rListS K [V.ref l] H Q := by
  obtain ⟨ts, e1, P1⟩ := hu
  unfold rListS
  refine ⟨l, _, rfl, SqL.of e1, fun p hp => ?_⟩
  have S := Rz.Same.new (o := .lst (ts.map V.ref)) (Same.refl H) hp
  exact k p _ hp S ⟨ts, upd_same, P1.keep (Tups.of S)⟩
/-- len(xs) of such a list -/
theorem len_go (hu : LAt H l us) (k : Q (.int (us.length : Nat)) H) : rLenS K [V.ref l] H Q := by
  obtain ⟨ts, e1, P1⟩ := hu
  unfold rLenS
  exact ⟨l, _, rfl, SqL.of e1, by rw [List.length_map, P1.length]; exact k⟩
end
theorem good_take {ps : List Pr} (h : GoodR ps) (n : Nat) : GoodR (ps.take n) := fun p hp => h p (List.mem_of_mem_take hp)
theorem good_drop {ps : List Pr} (h : GoodR ps) (n : Nat) : GoodR (ps.drop n) := fun p hp => h p (List.mem_of_mem_drop hp)
theorem good_cat {ps qs : List Pr} (h : GoodR ps) (g : GoodR qs) : GoodR (ps ++ qs) := fun p hp => (List.mem_append.mp hp).elim (h p) (g p)
theorem good_put {ps : List Pr} {p : Pr} (h : GoodR ps) (g : oddC p.1 = false ∧ 0 ≤ p.2 ∧ p.2 ≤ 9) (i : Nat) : GoodR (ps.set i p) := fun q hq => (List.mem_or_eq_of_mem_set hq).elim (h q) fun e => by rw [e]; exact g
end Rz
namespace Rz
open PySem PySem.Spec PyProof.Rows L2
/-! ### C(..), its wish by a name that is not opened -/
@[irreducible] def MkR (C : Addr) (sp : Sp) (dvs : List V) (E : XK) (vs : List V) (H : Hp) (Q : VK) : Prop := ∀ x dx, H x = none → H dx = none → dx ≠ x → sp (.ref x :: (vs ++ dvs)) (upd (upd H dx (.own x)) x (.ins C dx [])) (fun v H2 => v = .non ∧ Q (.ref x) H2) E
theorem mkR_eq {C : Addr} {sp : Sp} {dvs : List V} {E : XK} {vs : List V} {H : Hp} {Q : VK} : MkR C sp dvs E vs H Q = ∀ x dx, H x = none → H dx = none → dx ≠ x → sp (.ref x :: (vs ++ dvs)) (upd (upd H dx (.own x)) x (.ins C dx [])) (fun v H2 => v = .non ∧ Q (.ref x) H2) E := by
  unfold MkR
  rfl
def tMkR (C : Addr) (sp : Sp) (dvs : List V) (E : EX) (t : TA) : TE := fun σ H Q => t σ H fun vs H1 => MkR C sp dvs (E σ) vs H1 Q
theorem tMkR_eq {C : Addr} {sp : Sp} {dvs : List V} {E : EX} {t : TA} : tMkR C sp dvs E t = tMk C sp dvs E t := by
  funext σ H Q
  unfold tMkR tMk
  simp only [mkR_eq]
section
variable {X : Cx} {CX : CXT} {k : Nat} {f C : Addr} {fd : FuncData} {ps : List Str} {sp : Sp} {dvs : List V} {ds : List Value} {E : EX} {x : Str} {p pos : Pos} {e : Expr} {es : List Expr} {t : TA}
theorem pe_mkR (M : Mk X.K C f) (F : FnOk X.prog X.w X.K X.mg X.base CX k f fd ps sp) (hr : Room (k + 1) X.A) (hg : Gl X x) (hm : X.mg x = some (.ref C)) (hb : Binds X.K fd ps ds) (hd : Vals dvs ds) (hx : ∀ σ, PassesAt CX X σ (E σ))
    (ha : PA X (e :: es) t) (hdb : (x == ("__debug__" : Str)) = false := by decide) (he : starEach (e :: es) X.env = (false, eval e X.env) :: starEach es X.env := by rfl) (hpl : (backTo pos (starEach es X.env)).any (·.1) = false := by rfl) :
    PE X (.Call (.Name x p) (e :: es) [] pos) (tMkR C sp dvs E t) := by
  rw [tMkR_eq]
  exact pe_mk M F hr hg hm hb hd hx ha hdb he hpl
theorem pe_mkR0 (M : Mk X.K C f) (F : FnOk X.prog X.w X.K X.mg X.base CX k f fd ps sp) (hr : Room (k + 1) X.A) (hg : Gl X x) (hm : X.mg x = some (.ref C)) (hb : Binds X.K fd ps ds) (hd : Vals dvs ds) (hx : ∀ σ, PassesAt CX X σ (E σ))
    (hdb : (x == ("__debug__" : Str)) = false := by decide) : PE X (.Call (.Name x p) [] [] pos) (tMkR C sp dvs E tNil) := by
  rw [tMkR_eq]
  exact pe_mk0 M F hr hg hm hb hd hx hdb
end
end Rz
namespace Rz
open PySem PySem.Spec PyProof.Rows L2
theorem drT {H H' : Hp} {d : Addr} (D : Dr H d) (B : But [d] H H') : Tups H H' := Tups.but B fun b hb xs e => by
  have e2 : b = d := by simpa using hb
  obtain ⟨ns, q, _⟩ := D
  rw [e2, q] at e
  cases e
theorem evC {c : Nat} (h : c ∈ abc.cps.toList) : oddC c = false := by
  unfold oddC
  rw [decide_eq_true h]
  rfl
end Rz

namespace Rz
open PySem PySem.Spec PyProof.Rows L2
/-! ### calls of instances of an own class with __call__ -/
section
variable {X : Cx} {CX : CXT} {k n : Nat} {g C : Addr} {fd : FuncData} {ps ks : List Str} {sp : Sp} {dvs : List V} {ds : List Value} {E : EX} {pos : Pos} {e fe : Expr} {es : List Expr} {kws : List Keyword} {tf : TE} {t tk : TA} {gg : List Value → List Value → List Value} {gV : List V → List V → List V}
def tInst (C : Addr) (sp : Sp) (dvs : List V) (E : EX) (tf : TE) (t : TA) : TE := fun σ H Q => tf σ H fun y H1 => ∃ a, y = V.ref a ∧ t σ H1 fun vs H2 => (∃ dx fs, H2 a = some (.ins C dx fs)) ∧ sp (V.ref a :: (vs ++ dvs)) H2 Q (E σ)
theorem pe_inst (c : StX.CallO X.K C g) (F : FnOk X.prog X.w X.K X.mg X.base CX k g fd ps sp) (hr : Room k X.A) (hb : Binds X.K fd ps ds) (hd : Vals dvs ds) (hx : ∀ σ, PassesAt CX X σ (E σ)) (hf : PE X fe tf) (ha : PA X (e :: es) t)
    (ht : eval (.Call fe (e :: es) [] pos) X.env = (do callWith pos (← eval fe X.env) [] (backTo pos (starEach (e :: es) X.env)) (backToKw pos (keywordEach [] X.env))) := by rfl)
    (he : starEach (e :: es) X.env = (false, eval e X.env) :: starEach es X.env := by rfl) (hpl : (backTo pos (starEach es X.env)).any (·.1) = false := by rfl) : PE X (.Call fe (e :: es) [] pos) (tInst C sp dvs E tf t) := by
  refine ⟨fun pins s σ H Q I h => ?_⟩
  refine Call_ (thn (hf.run pins s σ H _ I h) fun u s1 ⟨y, H1, I1, ry, a, ey, q⟩ => ?_) ht
  subst ey
  obtain rfl : u = Value.ref a := ry
  refine StX.callO_with (thn (ha.run pos pins s1 σ H1 _ I1 q) fun us s2 ⟨vs, H2, I2, r, ⟨dx, fs, hi⟩, q2⟩ => ?_) he hpl
  obtain ⟨ox, od, J, hpd⟩ := StX.insC_at I2 (.inr ⟨dx, fs, hi⟩)
  exact ⟨⟨C, ox, od, J, hpd⟩, wpAny_call (PySem.W.kco_code I2.kIn J hpd c.at_ c.fn c.fi (codeAny_mono (run_X (us := .ref a :: us) (vs := .ref a :: vs) F hr rfl hb hd (hx σ) I2 (.cons rfl r) q2) fun _ _ hq => ended hq))⟩
theorem callO_kw {M : Model} {A : Around} {E : Value → Shared → Prop} {s : Shared} {a : Addr} {Q : Value → Shared → Prop} {args : List (Bool × Sem Value)} {kw : List (Option Str × Sem Value)} (hplain : (args.any (·.1) || kw.any (·.1.isNone)) = false)
    (h : wpAny M A (evalArgs (.ref a) true args kw) (fun z s₁ => (∃ C ox od, PySem.W.InstAt s₁.heap a ox C od ∧ ox.data = .plain) ∧ wpAny M A (call (.ref a) ([] ++ z.pos) z.kw) Q E s₁) E s) : wpAny M A (callWith pos (.ref a) [] args kw) Q E s := by
  unfold callWith
  refine wpAny_bind (wpAny_holding (wpAny_mono h (fun z s₁ h₁ => wpAny_bind (wpAny_standAt ?_)) fun _ _ y => y))
  obtain ⟨⟨C, ox, od, J, hpd⟩, h₂⟩ := h₁
  have L := PySem.W.kco_keeper (M := M) J hpd
  simp only [hplain]
  refine wpAny_bind (L.here ?_)
  have fin : ∀ {t : Sem Value}, wpAny M A t Q E s₁ → wpAny M A (t >>= fun r => holding [r] point >>= fun _ => pure r) Q E s₁ :=
    fun hq => wpAny_bind (wpAny_mono hq (fun r s₂ hr => wpAny_bind (wpAny_holding (wpAny_point (wpAny_pure hr)))) fun _ _ y => y)
  exact fin (wpAny_operateT h₂)
/-- f(e, .., k = v) of an instance -/
def tInstK (C : Addr) (n m : Nat) (sp : Sp) (gV : List V → List V → List V) (E : EX) (tf : TE) (t tk : TA) : TE := fun σ H Q => tf σ H fun y H1 => ∃ a, y = V.ref a ∧ t σ H1 fun vs H2 => tk σ H2 fun zs H3 => (∃ dx fs, H3 a = some (.ins C dx fs)) ∧ vs.length + 1 = n ∧ zs.length = m ∧ sp (gV (V.ref a :: vs) zs) H3 Q (E σ)
theorem pe_instK (c : StX.CallO X.K C g) (F : FnOk X.prog X.w X.K X.mg X.base CX k g fd ps sp) (hr : Room k X.A) (hb : KBn X.K fd ps n ks gg gV) (hx : ∀ σ, PassesAt CX X σ (E σ)) (hf : PE X fe tf) (ha : PA X (e :: es) t) (hkw : PK X kws tk)
    (ht : eval (.Call fe (e :: es) kws pos) X.env = (do callWith pos (← eval fe X.env) [] (backTo pos (starEach (e :: es) X.env)) (backToKw pos (keywordEach kws X.env))) := by rfl)
    (hall : (backToKw pos (keywordEach kws X.env)).all (·.1.isSome) = true := by rfl) (hks : (backToKw pos (keywordEach kws X.env)).filterMap (·.1) = ks := by rfl)
    (he : starEach (e :: es) X.env = (false, eval e X.env) :: starEach es X.env := by rfl) (hpl : ((backTo pos (starEach (e :: es) X.env)).any (·.1) || (backToKw pos (keywordEach kws X.env)).any (·.1.isNone)) = false := by rfl) :
    PE X (.Call fe (e :: es) kws pos) (tInstK C n ks.length sp gV E tf t tk) := by
  refine ⟨fun pins s σ H Q I h => ?_⟩
  rw [ht]
  refine wpAny_bind (thn (hf.run pins s σ H _ I h) fun u s1 ⟨y, H1, I1, ry, a, ey, q⟩ => ?_)
  subst ey
  obtain rfl : u = Value.ref a := ry
  refine callO_kw hpl (evalArgs_kw2 hall (thn (ha.run pos pins s1 σ H1 _ I1 q) fun us s2 ⟨vs, H2, I2, r, q2⟩ => thn (hkw.run pos pins s2 σ H2 _ I2 q2) fun ws s3 ⟨zs, H3, I3, rz, ⟨dx, fs, hi⟩, l1, l2, q3⟩ => ?_) he)
  obtain ⟨ox, od, J, hpd⟩ := StX.insC_at I3 (.inr ⟨dx, fs, hi⟩)
  refine ⟨⟨C, ox, od, J, hpd⟩, wpAny_call (PySem.W.kco_code I3.kIn J hpd c.at_ c.fn c.fi ?_)⟩
  rw [hks]
  have ra : Vals (V.ref a :: vs) (Value.ref a :: us) := .cons rfl r
  refine codeAny_mono (F.run X.A X.stack s3 H3 ⟨.ref a :: us, ks.zip ws⟩ (gg (.ref a :: us) ws) (gV (.ref a :: vs) zs) Q (E σ) hr I3.env0 (hb.to s3 _ ws I3.kIn (by rw [List.length_cons, ← r.length]; exact l1) (rz.length.symm.trans l2)) (hb.rel ra rz) q3) fun q s' hq => ?_
  match q, hq with
  | .error er, hq => exact hx σ pins H3 s3 er s' I3 hq
  | .ok (.ret u), hq => exact I3.after hq
  | .ok .next, hq => exact False.elim hq
  | .ok .brk, hq => exact False.elim hq
  | .ok .cont, hq => exact False.elim hq
end
/-- how keywords bind to a def with defaults and no keyword-only parameter -/
theorem kbinds1 {K : PySem.W.Frag} {x qual : Str} {params : Arguments} {body : List Stmt} {scope : Scope} {dvs : List V} {kws : List (Str × V)} {f : Addr} {fd : FuncData} {ps : List Str} (F : FunD K x qual params body scope dvs kws f fd) (n : Nat) (ks : List Str) (g : {α : Type} → List α → List α → List α → List α) (hd : dvs ≠ [])
    (hrel : ∀ {vs dv zs : List V} {us its ws : List Value}, Vals vs us → Vals dv its → Vals zs ws → Vals (g vs dv zs) (g us its ws))
    (h : ∀ (T : Addr) (kV doc pm : Value) (an : Option Addr) (cdv ct : Value) (us its ws : List Value), us.length = n → its.length = dvs.length → ws.length = ks.length →
      ∃ k, bindArgs (PySem.W.fnOf x qual params body scope (.ref T) kV doc pm an cdv ct) ⟨us, ks.zip ws⟩ = seqItems? (.ref T) >>= k ∧ k (some its.toArray) = pure (ps.zip (g us its ws))) : ∃ its : List Value, KBn K fd ps n ks (fun us ws => g us its ws) (fun vs zs => g vs dvs zs) := by
  obtain ⟨oc, od, dV, kV, doc, pm, an, cdv, ct, osl, rfl, lk, hcd, hD, hK⟩ := F.ex
  rcases hD with ⟨e, _⟩ | ⟨_, T, o, its, m, rfl, lT, oT, rT⟩
  · exact absurd e hd
  · refine ⟨its, ⟨fun s us ws X l1 l2 => ?_, fun r1 r2 => hrel r1 rT r2⟩⟩
    obtain ⟨k, e1, e2⟩ := h T kV doc pm an cdv ct us its ws l1 rT.length.symm l2
    exact PySem.W.binds_K X rfl lT oT e1 e2
end Rz
namespace Rz
open PySem PySem.Spec PyProof.Rows L2
theorem fn_inD {x qual : Str} {params : Arguments} {body : List Stmt} {scope : Scope} {dvs : List V} {kws : List (Str × V)} {g : Addr} {K : PySem.W.Frag} {gd : FuncData} (F : FunD K x qual params body scope dvs kws g gd) : PySem.W.fnIn K g = true := by
  obtain ⟨_, _, _, _, _, _, _, _, _, _, _, lk, _⟩ := F.ex
  unfold PySem.W.fnIn
  rw [lk]
end Rz

namespace Rz
open PySem PySem.Spec PyProof.Rows L2
/-! ### a step of a rule, as lists -/
/-- l stands in cs from i on -/
def fitAt (cs l : List Nat) (i : Int) : Bool := decide (0 ≤ i) && ((cs.drop i.toNat).take l.length == l)
theorem fit_iff {cs l : List Nat} {i : Int} : fitAt cs l i = true ↔ 0 ≤ i ∧ (cs.drop i.toNat).take l.length = l := by
  unfold fitAt
  rw [Bool.and_eq_true, decide_eq_true_iff, beq_iff_eq]
theorem fit_len {cs l : List Nat} {i : Int} (h : fitAt cs l i = true) (hl : l ≠ []) : i.toNat + l.length ≤ cs.length := by
  have e := congrArg List.length (fit_iff.mp h).2
  rw [List.length_take, List.length_drop] at e
  have : 0 < l.length := List.length_pos_iff.mpr hl
  omega
theorem starts_fit {x l : Str} {i : Int} (h0 : 0 ≤ i) (hl : l.cps.toList ≠ []) : Txt.startswith3 x l i = fitAt x.cps.toList l.cps.toList i := by
  unfold Txt.startswith3
  have e1 : PySem.fromIndex x.length i = i.toNat := by
    unfold PySem.fromIndex
    rw [if_neg (by omega)]
    omega
  rw [e1, PySem.StrLaws.subAt_eq]
  unfold fitAt
  rw [decide_eq_true h0, Bool.true_and]
  show (decide (i.toNat + l.length ≤ x.length) && ((x.cps.toList.drop i.toNat).take l.length == l.cps.toList)) = ((x.cps.toList.drop i.toNat).take l.length == l.cps.toList)
  cases e : ((x.cps.toList.drop i.toNat).take l.length == l.cps.toList) with
  | false => rw [Bool.and_false]
  | true =>
    have := fit_len (cs := x.cps.toList) (l := l.cps.toList) (i := i) (fit_iff.mpr ⟨h0, beq_iff_eq.mp e⟩) hl
    rw [decide_eq_true (show i.toNat + l.length ≤ x.length from this), Bool.true_and]
/-- the least number of a list -/
def leastL : List Int → Int
  | [] => 0
  | n :: r => r.foldl min n
theorem foldl_min : ∀ (r : List Int) (n : Int), (r.foldl min n = n ∨ r.foldl min n ∈ r) ∧ r.foldl min n ≤ n ∧ ∀ y ∈ r, r.foldl min n ≤ y
  | [], n => ⟨.inl rfl, Int.le_refl _, fun y h => by cases h⟩
  | x :: r, n => by
    obtain ⟨a, b, c⟩ := foldl_min r (min n x)
    refine ⟨?_, Int.le_trans b (Int.min_le_left ..), fun y hy => ?_⟩
    · rcases a with a | a
      · show (r.foldl min (min n x) = n) ∨ (r.foldl min (min n x) ∈ x :: r)
        rw [a]
        by_cases h : n ≤ x
        · exact .inl (Int.min_eq_left h)
        · right
          rw [Int.min_eq_right (by omega)]
          exact List.mem_cons_self
      · exact .inr (List.mem_cons_of_mem _ a)
    · rcases List.mem_cons.mp hy with rfl | hy
      · exact Int.le_trans b (Int.min_le_right ..)
      · exact c y hy
theorem leastL_eq {ns : List Int} {m : Int} (h : m ∈ ns) (hall : ∀ y ∈ ns, m ≤ y) : m = leastL ns := by
  cases ns with
  | nil => cases h
  | cons n r =>
    obtain ⟨a, b, c⟩ := foldl_min r n
    show m = r.foldl min n
    have h1 : m ≤ r.foldl min n := by
      rcases a with a | a
      · rw [a]
        exact hall n List.mem_cons_self
      · exact hall _ (List.mem_cons_of_mem _ a)
    have h2 : r.foldl min n ≤ m := by
      rcases List.mem_cons.mp h with rfl | h
      · exact b
      · exact c m h
    omega
theorem leastL_mem {ns : List Int} (h : ns ≠ []) : leastL ns ∈ ns := by
  cases ns with
  | nil => exact absurd rfl h
  | cons n r =>
    obtain ⟨a, _, _⟩ := foldl_min r n
    show r.foldl min n ∈ n :: r
    rcases a with a | a
    · rw [a]
      exact List.mem_cons_self
    · exact List.mem_cons_of_mem _ a
/-- the least height of the n pairs from i on -/
def leastAt (ps : List Pr) (i n : Nat) : Int := leastL (hts ((ps.drop i).take n))
theorem leastAt_good {ps : List Pr} {i n : Nat} (g : GoodR ps) (h : i + n ≤ ps.length) (hn : 0 < n) : 0 ≤ leastAt ps i n ∧ leastAt ps i n ≤ 9 := by
  have ne : hts ((ps.drop i).take n) ≠ [] := fun z => by
    have := congrArg List.length z
    rw [hts_len, List.length_take, List.length_drop, List.length_nil] at this
    omega
  have m := leastL_mem ne
  unfold hts at m
  obtain ⟨p, hp, e⟩ := List.mem_map.mp m
  have := (g p (List.mem_of_mem_drop (List.mem_of_mem_take hp))).2
  unfold leastAt hts
  rw [← e]
  exact this
/-- the pairs that the step writes -/
def fresh (r : List Nat) (h : Int) : List Pr := r.map fun c => (c, h)
theorem fresh_len (r : List Nat) (h : Int) : (fresh r h).length = r.length := List.length_map ..
theorem fresh_good {r : List Nat} {h : Int} (hr : ∀ c ∈ r, oddC c = false) (h0 : r ≠ [] → 0 ≤ h ∧ h ≤ 9) : GoodR (fresh r h) := fun p hp => by
  unfold fresh at hp
  obtain ⟨c, hc, rfl⟩ := List.mem_map.mp hp
  exact ⟨hr c hc, h0 (List.ne_nil_of_mem hc)⟩
theorem zip_rep (r : List Nat) (h : Int) : r.zip (List.replicate r.length h) = fresh r h := by
  unfold fresh
  induction r with
  | nil => rfl
  | cons c r ih =>
    rw [List.length_cons, List.replicate_succ, List.zip_cons_cons, ih]
    rfl
/-- the row after the step -/
def stepTo (ps : List Pr) (l r : List Nat) (i : Nat) : List Pr := ps.take i ++ fresh r (1 + leastAt ps i l.length) ++ ps.drop (i + l.length)
theorem fo_even {z : Str} (h : fo z = none) : ∀ c ∈ z.cps.toList, oddC c = false := fun c hc => by
  have := List.findIdx?_eq_none_iff.mp h c hc
  simpa using this
theorem rr_fresh {z : Str} {h : Int} (hz : fo z = none) (h0 : z.cps.toList ≠ [] → 0 ≤ h ∧ h ≤ 9) : rr z (List.replicate z.length h) = .row := by
  unfold rr
  rw [hz]
  dsimp only
  rw [if_neg (by rw [List.length_replicate]; simp)]
  have e : (List.replicate z.length h).find? badH = none := by
    rw [List.find?_eq_none]
    intro n hn
    obtain ⟨hne, rfl⟩ := List.mem_replicate.mp hn
    have h1 := h0 (fun e => hne (by
      have : z.cps.toList.length = 0 := by rw [e]; rfl
      rw [len_list] at this
      exact this))
    unfold badH
    simp
    omega
  rw [e]
theorem nodup_le : ∀ {xs z : List Nat}, xs.Nodup → (∀ x ∈ xs, x ∈ z) → xs.length ≤ z.length
  | [], z, _, _ => Nat.zero_le _
  | x :: xs, z, nd, h => by
    have hx := h x List.mem_cons_self
    have nd2 := List.nodup_cons.mp nd
    have ih := nodup_le (xs := xs) (z := z.erase x) nd2.2 fun y hy => (List.mem_erase_of_ne (fun e => nd2.1 (by rw [← e]; exact hy))).mpr (h y (List.mem_cons_of_mem _ hy))
    rw [List.length_erase_of_mem hx] at ih
    have : 0 < z.length := List.length_pos_of_mem hx
    rw [List.length_cons]
    omega
end Rz

namespace Rz
open PySem PySem.Spec PyProof.Rows L2
/-! ### making an instance whose __init__ has a star; class methods -/
section
variable {P : Program} {w : World} {K : PySem.W.Frag} {mg : Str → Option Value} {base : Heap} {CX : CXT} {k : Nat} {f : Addr} {fd : FuncData} {ps : List Str} {sp : Sp}
/-- the promise of a def that is called by position -/
theorem fnr_of (F : FnOk P w K mg base CX k f fd ps sp) (hb : Binds K fd ps []) : FnR P w K mg base CX k f sp := by
  intro A outer s H us vs Q E hr e0 r h
  have hl : us.length = ps.length := r.length.symm.trans (F.len _ _ _ _ h)
  have hbb := hb s us (e0.mod.kin.keeps fun b o e => (e0.bs b o e).1) (by rw [List.append_nil]; exact hl)
  rw [List.append_nil] at hbb
  exact F.run A outer s H ⟨us, []⟩ us vs Q E hr e0 hbb r h
end
/-- a new instance, by a positional promise of __init__ -/
@[irreducible] def MkS (C : Addr) (sp : Sp) (E : XK) (vs : List V) (H : Hp) (Q : VK) : Prop := ∀ x dx, H x = none → H dx = none → dx ≠ x →
  sp (V.ref x :: vs) (upd (upd H dx (.own x)) x (.ins C dx [])) (fun v H2 => v = .non ∧ Q (.ref x) H2) E
theorem mkS_eq {C : Addr} {sp : Sp} {E : XK} {vs : List V} {H : Hp} {Q : VK} : MkS C sp E vs H Q = ∀ x dx, H x = none → H dx = none → dx ≠ x →
  sp (V.ref x :: vs) (upd (upd H dx (.own x)) x (.ins C dx [])) (fun v H2 => v = .non ∧ Q (.ref x) H2) E := by
  unfold MkS
  rfl
def tMkS (C : Addr) (sp : Sp) (E : EX) (t : TA) : TE := fun σ H Q => t σ H fun vs H1 => MkS C sp (E σ) vs H1 Q
def tMkSL (i : Nat) (C : Addr) (sp : Sp) (E : EX) (t : TA) : TE := fun σ H Q => σ[i]? = some (some (.ref C)) ∧ t σ H fun vs H1 => MkS C sp (E σ) vs H1 Q
/-- C.m(..), m a classmethod -/
def tCm (C : Addr) (sp : Sp) (E : EX) (ta : TE) (t : TA) : TE := fun σ H Q => ta σ H fun x H1 => x = .ref C ∧ t σ H1 fun vs H2 => sp (.ref C :: vs) H2 Q (E σ)
section
variable {X : Cx} {CX : CXT} {k i : Nat} {f C : Addr} {sp : Sp} {E : EX} {x m : Str} {e o : Expr} {es : List Expr} {te ta : TE} {t : TA} {p pos sp_ apos : Pos} {q g : Addr} {mc : Value}
theorem run_fnRA {pins : List (Addr × Obj)} {σ : L2.St} {H : Hp} {s : Shared} {Q : VK} {E : XK} {us : List Value} {vs : List V} (F : FnR X.prog X.w X.K X.mg X.base CX k f sp) (hr : Room k X.A) (hx : PassesAt CX X σ E) (I : Inv X pins σ H s) (r : Vals vs us) (h : sp vs H Q E) :
    codeAny (model X.prog X.w) X.A (.call (.ref f) ⟨us, []⟩) (fun r s' => match r with | .ok (.ret v) => EP X pins σ Q v s' | .ok _ => False | .error e => X.xe e s') s := by
  refine codeAny_mono (F X.A X.stack s H us vs Q E hr I.env0 r h) fun q s' hq => ?_
  match q, hq with
  | .error er, hq => exact hx pins H s er s' I hq
  | .ok (.ret u), hq => exact I.after hq
  | .ok .next, hq => exact False.elim hq
  | .ok .brk, hq => exact False.elim hq
  | .ok .cont, hq => exact False.elim hq
theorem run_mkS {pins : List (Addr × Obj)} {σ : L2.St} {H : Hp} {s : Shared} {Q : VK} {E : XK} {us : List Value} {vs : List V} (M : Mk X.K C f) (F : FnR X.prog X.w X.K X.mg X.base CX k f sp) (hr : Room (k + 1) X.A) (hx : PassesAt CX X σ E) (I : Inv X pins σ H s) (r : Vals vs us)
    (h : MkS C sp E vs H Q) : wpAny (model X.prog X.w) X.A (call (.ref C) us) (EP X pins σ Q) X.xe s := by
  rw [mkS_eq] at h
  have hq := h (s.heap.objs.size + 1) s.heap.objs.size (I.hok.fresh (Nat.le_succ _)) (I.hok.fresh (Nat.le_refl _)) (Nat.ne_of_lt (Nat.lt_succ_self _))
  have I2 := Inv.made (C := C) I
  have r2 : Vals (V.ref (s.heap.objs.size + 1) :: vs) (Value.ref (s.heap.objs.size + 1) :: us) := .cons rfl r
  refine wpAny_call (make_map (f := f) I.kIn M.makes M.init (beq_iff_eq.mp M.fn) (codeAny_mono (F _ X.stack _ _ (Value.ref (s.heap.objs.size + 1) :: us) _ _ E (hr.make C us []) (I2.env0.make C us []) r2 hq) fun r s' hq' => ?_))
  cases r with
  | error e => exact hx pins _ _ e s' I2 hq'
  | ok fl =>
    cases fl with
    | ret u =>
      obtain ⟨v, H', I3, rv, ev, q3⟩ := I2.after hq'
      subst ev
      exact ⟨rv, ⟨V.ref (s.heap.objs.size + 1), H', I3, rfl, q3⟩⟩
    | next => exact False.elim hq'
    | brk => exact False.elim hq'
    | cont => exact False.elim hq'
theorem pe_mkS (M : Mk X.K C f) (F : FnR X.prog X.w X.K X.mg X.base CX k f sp) (hr : Room (k + 1) X.A) (hg : Gl X x) (hm : X.mg x = some (.ref C)) (hx : ∀ σ, PassesAt CX X σ (E σ)) (ha : PA X (e :: es) t) (hdb : (x == ("__debug__" : Str)) = false := by decide)
    (he : starEach (e :: es) X.env = (false, eval e X.env) :: starEach es X.env := by rfl) (hpl : (backTo pos (starEach es X.env)).any (·.1) = false := by rfl) : PE X (.Call (.Name x p) (e :: es) [] pos) (tMkS C sp E t) := ⟨fun pins s σ H Q I h =>
  wpAny_Call_Name_kw (ld_glob I hg hm (PySem.W.callWith_K (h₀ := X.base) I.ok.mod.kin M.kp (thn (ha.run pos pins s σ H _ I h) fun us s1 ⟨vs, H1, J, r, q⟩ => ⟨J.kIn, run_mkS M F hr (hx σ) J r q⟩) he hpl) hdb)⟩
theorem pe_mkS0 (M : Mk X.K C f) (F : FnR X.prog X.w X.K X.mg X.base CX k f sp) (hr : Room (k + 1) X.A) (hg : Gl X x) (hm : X.mg x = some (.ref C)) (hx : ∀ σ, PassesAt CX X σ (E σ)) (hdb : (x == ("__debug__" : Str)) = false := by decide) :
    PE X (.Call (.Name x p) [] [] pos) (tMkS C sp E tNil) := ⟨fun pins s σ H Q I h =>
  wpAny_Call_Name_kw (ld_glob I hg hm (PySem.W.callWith_K0 I.kIn M.kp (run_mkS (us := []) M F hr (hx σ) I .nil h)) hdb)⟩
/-- x() where the local x is the class -/
theorem pe_mkSL0 (M : Mk X.K C f) (F : FnR X.prog X.w X.K X.mg X.base CX k f sp) (hr : Room (k + 1) X.A) (hN : X.N[i]? = some x) (hv : Vis X.env.scope x) (hx : ∀ σ, PassesAt CX X σ (E σ))
    (hdb : (x == ("__debug__" : Str)) = false := by decide) (hcd : (x == ("__classdict__" : Str)) = false := by decide) : PE X (.Call (.Name x p) [] [] pos) (tMkSL i C sp E tNil) := by
  refine ⟨fun pins s σ H Q I h => ?_⟩
  obtain ⟨hs, ht⟩ := h
  refine wpAny_Call_Name_kw (thn ((pe_var (pos := p) hN hv hdb hcd).run pins s σ H (fun v H1 => v = .ref C ∧ H1 = H) I ⟨.ref C, hs, rfl, rfl⟩) fun u s1 ⟨v, H1, I1, r1, q1⟩ => ?_)
  obtain ⟨rfl, rfl⟩ := q1
  cases r1
  exact PySem.W.callWith_K0 I1.kIn M.kp (run_mkS (us := []) M F hr (hx σ) I1 .nil ht)
/-- x(*y) where the local x is the class -/
theorem pe_mkSLs (M : Mk X.K C f) (F : FnR X.prog X.w X.K X.mg X.base CX k f sp) (hr : Room (k + 1) X.A) (hN : X.N[i]? = some x) (hv : Vis X.env.scope x) (hx : ∀ σ, PassesAt CX X σ (E σ)) (he : PE X e te)
    (hdb : (x == ("__debug__" : Str)) = false := by decide) (hcd : (x == ("__classdict__" : Str)) = false := by decide) (hst : starEach [.Starred e sp_] X.env = [(true, eval e X.env)] := by rfl) :
    PE X (.Call (.Name x p) [.Starred e sp_] [] pos) (tMkSL i C sp E fun σ H Q => te σ H fun y H1 => ∃ a xs, y = V.ref a ∧ (SqT X.K H1 a xs ∨ SqL X.K H1 a xs) ∧ Q xs H1) := by
  refine ⟨fun pins s σ H Q I h => ?_⟩
  obtain ⟨hs, ht⟩ := h
  refine wpAny_Call_Name_kw (thn ((pe_var (pos := p) hN hv hdb hcd).run pins s σ H (fun v H1 => v = .ref C ∧ H1 = H) I ⟨.ref C, hs, rfl, rfl⟩) fun u s1 ⟨v, H1, I1, r1, q1⟩ => ?_)
  obtain ⟨rfl, rfl⟩ := q1
  cases r1
  refine PySem.W.callWith_S (h₀ := X.base) I.ok.mod.kin M.kp (thn (he.run pins s1 σ _ _ I1 ht) fun v s2 ⟨y, H2, I2, ry, a, xs, ey, hxs, q⟩ => ?_) hst
  subst ey
  obtain rfl : v = Value.ref a := ry
  exact StX.star_any I2 hxs fun us s3 I3 rv => ⟨I3.kIn, run_mkS M F hr (hx σ) I3 rv q⟩
theorem pe_cm {pl : Sem Bool} (he : PE X o ta) (r : ClX.CRead X.K C mc) (c : ClX.CMet X.K C mc m q g) (F : FnR X.prog X.w X.K X.mg X.base CX k g sp) (hr : Room k X.A) (hx : ∀ σ, PassesAt CX X σ (E σ)) (ha : PA X (e :: es) t)
    (hst : starEach (e :: es) X.env = (false, eval e X.env) :: starEach es X.env := by rfl) (hpl : (backTo pos (starEach es X.env)).any (·.1) = false := by rfl)
    (ht : eval (.Call (.Attribute o m apos) (e :: es) [] pos) X.env = (do
      let ov ← eval o X.env
      standAt apos.atName
      let (f, first) ← holding [ov] (getMethod ov m pl)
      callWith pos f first (backTo pos (starEach (e :: es) X.env)) (backToKw pos (keywordEach [] X.env))) := by rfl) :
    PE X (.Call (.Attribute o m apos) (e :: es) [] pos) (tCm C sp E ta t) := by
  refine ⟨fun pins s σ H Q I h => ?_⟩
  refine PySem.W.methodCall_KW (pl := pl) (thn (he.run pins s σ H _ I h) fun u s1 ⟨x, H1, I1, rx, ex, q⟩ => ?_) ht
  subst ex
  obtain rfl : u = Value.ref C := rx
  refine ClX.getmethcm_ok I1 r c fun s2 I2 => ?_
  refine ClX.callwith_cm I2 (ClX.base_none I1 (Nat.le_refl _)) c.fi (thn (ha.run pos _ s2 σ H1 _ I2 q) fun us s3 ⟨vs, H2, I3, rv, q2⟩ => ⟨⟨ClX.pin_at I3, I3.kIn⟩, ?_⟩) hst hpl
  have z : wpAny (model X.prog X.w) X.A (call (.ref _) us) (EP X ((_, PySem.W.methodObj (.ref g) (.ref C)) :: pins) σ Q) X.xe s3 :=
    wpAny_call (PySem.W.method_call (ClX.pin_at I3) (run_fnRA (us := .ref C :: us) (vs := .ref C :: vs) F hr (hx σ) I3 (.cons rfl rv) q2))
  exact thn z fun _ _ y => ClX.unpinE y
end
end Rz

namespace Rz
open PySem PySem.Spec PyProof.Rows L2
/-! ### iter(t) of a tuple; a comprehension over an own class whose __iter__ gives it -/
/-- at it a tuple's iterator that has not begun -/
def ItT (t it : Addr) : HO := .ext fun h => h.IsTupleIter it t 0
theorem itT_ok {P : Program} {w : World} {H : Hp} {h : Heap} {t it : Addr} (e : h.IsTupleIter it t 0) : ObjOk P w H h it (ItT t it) :=
  ⟨e, let ⟨o, ho, _⟩ := e; ⟨o, ho⟩, fun h1 h2 q k => let ⟨o, ho, r⟩ := q; ⟨o, k _ ho, r⟩⟩
section
variable {prog : Program} {w : World} {A : Around} {E : Value → Shared → Prop} {s : Shared} {t : Addr} {items : Array Value}
theorem iter_tup {Q : Value → Shared → Prop} (hl : s.heap.IsTuple t items) (h : Q (.ref s.heap.objs.size) { s with heap := s.heap.push { cls := .type "tuple_iterator", data := .fields #[.ref t, .int 0 0] } }) : wpAny (model prog w) A (call (.builtin "iter") [.ref t]) Q E s := by
  refine Calls.call_function_entry (by decide +kernel) (by decide +kernel) PySem.W.kdk_entry_iter (PySem.W.kdk_args_iter _) ?_
  unfold Builtin.«iter»
  refine wpAny_bind (m := someArgs "iter" 1 2 _) (wpAny_of_eq (a := [Value.ref t]) (by first | rfl | kernel_rfl!) ?_)
  show wpAny _ _ (pyIter (.ref t) >>= _) _ _ _
  refine wpAny_bind (wpAny_pyIter_tuple hl ?_)
  exact wpAny_pure ⟨_, rfl, h⟩
end
def rIterT (K : PySem.W.Frag) (n : Nat) : List V → Hp → VK → Prop := fun xs H Q => ∃ (t : Addr) (zs : List V), xs = [.ref t] ∧ SqT K H t zs ∧ ∀ it, H it = none → n ≤ it → Q (.ref it) (upd H it (ItT t it))
section
variable {X : Cx}
theorem call_iterT : CallR X (.builtin "iter") (rIterT X.K X.s_0.heap.objs.size) := by
  intro pins s σ H xs us Q I r h
  obtain ⟨l, zs, rfl, hq, q⟩ := h
  obtain ⟨u, rfl, ru⟩ := vals1 r
  cases ru
  obtain ⟨its, rv, pl, hz⟩ := I.tuple hq
  refine iter_tup (show s.heap.IsTuple l its.toArray from pl) ?_
  exact ⟨.ref s.heap.objs.size, _, I.laid (t' := s.toks) (fun b u e => Heap.get?_push_of_some _ e) (Nat.le_refl _) (itT_ok ⟨_, Heap.get?_push_size _ rfl, rfl, rfl⟩), rfl, q _ (I.hok.fresh (Nat.le_refl _)) I.sz⟩
end
/-- the def gives a new iterator of the tuple at t -/
def IterOk (P : Program) (w : World) (K : PySem.W.Frag) (mg : Str → Option Value) (base : Heap) (k : Nat) (f : Addr) (pre : Addr → Addr → Hp → Prop) : Prop :=
  ∀ (A : Around) (outer : List Env) (s : Shared) (H : Hp) (a t : Addr), Room k A → Env0 P w K mg base A outer s H → pre a t H →
    codeAny (model P w) A (.call (.ref f) ⟨[.ref a], []⟩) (fun q s' => match q with
      | .ok (.ret u) => CE outer P w H s (fun v H' => ∃ it, v = .ref it ∧ s.heap.objs.size ≤ it ∧ H it = none ∧ H' = upd H it (ItT t it)) u s'
      | .ok _ => False
      | .error e => L2.CX P w outer H s E0 e s') s
theorem iter_of {P : Program} {w : World} {K : PySem.W.Frag} {mg : Str → Option Value} {base : Heap} {k : Nat} {x qual : Str} {st : Stmt} {f : Addr} {fd : FuncData} {N ps : List Str} {pre : Addr → Addr → Hp → Prop} {e : Expr} {p2 : Pos} (F : Fun K x qual st f fd) (S : FnScope N ps (defScope st))
    (hb : Binds K fd ps []) (hl : ps.length = 1) (hst : defBody st = [.Return (some e) p2])
    (hbody : ∀ (cdv : Value) (A : Around) (outer : List Env) (s : Shared) (H : Hp) (a t : Addr), Room k (A.deeper (envOfC qual (defScope st) s.heap.objs.size f cdv)) → pre a t H →
      ∃ te, PE (cxOf (L2.CX P w) P w K mg base N qual (defScope st) f cdv A outer s H E0) e te ∧ te (start N [.ref a]) H (fun v H' => ∃ it, v = .ref it ∧ s.heap.objs.size ≤ it ∧ H it = none ∧ H' = upd H it (ItT t it))) : IterOk P w K mg base (k + 1) f pre := by
  intro A outer s H a t hr e0 hpre
  have KX : K.In s.heap := e0.mod.kin.keeps fun b o e => (e0.bs b o e).1
  have hbb := hb s [.ref a] KX (by rw [List.append_nil]; exact hl.symm)
  rw [List.append_nil] at hbb
  obtain ⟨oc, od, kV, doc, pm, an, cdv, ct, osl, rfl, lk, hcd⟩ := F.ex
  have lim : s.heap.NoLimit := e0.mod.nolimit.keeps fun b o e => (e0.bs b o e).1
  have hkind : ∀ y ∈ ps.zip [Value.ref a], (defScope st).names.lookup y.1 = some .local ∨ ((defScope st).names.lookup y.1 = some .cell ∧ ((cellsFrom (s.heap.objs.size + 1) (defScope st).names []).lookup y.1).isSome = true) := fun ⟨n, v⟩ hy => by
    rcases S.par n (List.of_mem_zip hy).1 with q | q
    · exact .inl q
    · exact .inr ⟨q, PySem.W.cellsFrom_some _ _ _ (.inl q)⟩
  refine codeAny_call_function hr.depth (KX _ _ lk) rfl S.co S.gen rfl (PySem.W.codeRec_of KX hcd) (hbb _ _ _ _ ?_)
  refine wpAny_newFunctionEnv_cells S.kind hkind fun env he s1 xx => ?_
  subst he
  refine ⟨lim.keeps xx.toInCall.keep, codeAny_func ?_⟩
  obtain ⟨te, hc, hq⟩ := hbody cdv A outer s H a t (hr.deeper _) hpre
  have I : Inv (cxOf (L2.CX P w) P w K mg base N qual (defScope st) f cdv A outer s H E0) [] (start N [.ref a]) H s1 := inv_start S hr.hd e0 (by rw [hl]; rfl) (.cons rfl .nil) xx
  show wpAny _ _ (execs (defBody st) _) _ _ _
  rw [hst]
  refine wpAny_execs_cons (wpAny_Return_some (wpAny_mono (hc.run [] s1 (start N [.ref a]) H _ I hq) (fun b s2 hs => ?_) (fun e s' hs => ?_)))
  · obtain ⟨v, H2, I2, rv, hv⟩ := hs
    exact ⟨v, H2, I2.os, I2.bare, I2.base, I2.hok, rv, hv⟩
  · exact hs
/-- a comprehension or a loop over such an instance -/
def iOwnT (K : PySem.W.Frag) (C : Addr) (pre : Addr → Addr → Hp → Prop) (te : TE) : TI := fun σ H R => te σ H fun x H1 => ∃ a t dx fs xs, x = .ref a ∧ H1 a = some (.ins C dx fs) ∧ pre a t H1 ∧ SqT K H1 t xs ∧ R (Itt K t) H1
section
variable {X : Cx} {tg e : Expr} {te : TE} {C f : Addr} {k : Nat} {pre : Addr → Addr → Hp → Prop}
theorem pi_ownT (M : Meth X.K C "__iter__" f) (F : IterOk X.prog X.w X.K X.mg X.base k f pre) (hr : Room k X.A) (he : PE X e te) : PI X tg e (iOwnT X.K C pre te) := by
  refine ⟨fun pins s σ H R I h => ?_⟩
  refine thn (he.run pins s σ H _ I h) fun v s1 ⟨x, H1, I1, r1, q1⟩ => ?_
  obtain ⟨a, t, dx, fs, xs, ex, ea, hp, ht, q⟩ := q1
  subst ex
  obtain rfl : v = Value.ref a := r1
  obtain ⟨od, J⟩ := inst_at I1 ea
  obtain ⟨m0, hF⟩ := I1.fr
  refine PySem.W.owit_iter hF I1.ok.mod.kin J M.at_ M.fn (wpAny_call (codeAny_mono (F X.A X.stack s1 H1 a t hr I1.env0 hp) fun r s' hq => ?_))
  match r, hq with
  | .error er, hq =>
    obtain ⟨_, _, _, _, _, _, _, _, _, _, _, _, z⟩ := hq
    exact z.elim
  | .ok .next, hq => exact False.elim hq
  | .ok .brk, hq => exact False.elim hq
  | .ok .cont, hq => exact False.elim hq
  | .ok (.ret u), hq =>
    obtain ⟨v, H', I2, rv, it, rfl, young, hn, rfl⟩ := I1.after hq
    obtain rfl : u = Value.ref it := rv
    have hit : upd H1 it (ItT t it) it = some (ItT t it) := upd_same
    have st : s'.heap.IsTupleIter it t 0 := (I2.hok it _ hit).1
    have hit2 := hit
    unfold ItT at hit2
    unfold PySem.W.OwitIt
    refine wpAny_specialOf (name := Str.ofString "__next__") st.typeIs slot_tupleiter_next.lookup ?_
    have I3 := ItX.inv_drop I2 hit2
    have fp := ItX.inv_fp I2 hit2 (Nat.le_trans I1.sz young)
    have eH : ItX.dropH (upd H1 it (ItT t it)) it = H1 := ItX.dropH_upd hn
    rw [eH] at I3 fp
    refine ⟨it, [it], _, _, H1, rfl, I3, turn_tuple t it, st, fun b hb => ?_, q⟩
    have e : b = it := by simpa using hb
    rw [e]
    exact fp
end
end Rz

namespace Rz
open PySem PySem.Spec PyProof.Rows L2
/-! ### set(text) -/
/-- the set at a has the texts l, its table can be walked -/
def SsAt (P : Program) (w : World) (h : Heap) (a : Addr) (l : List Str) : Prop :=
  ∃ D : PySem.Froz.SD, h.get? a = some (PySem.Froz.sObj "set" D) ∧ PySem.Froz.TxOk P w D l ∧ l.Nodup ∧ Ris D.2.2.place.toList ∧ (w.params.followText "set-order" = true ∨ D.2.2.led = true)
theorem SsAt.keep {P : Program} {w : World} {h h' : Heap} {a : Addr} {l : List Str} (x : SsAt P w h a l) (k : ∀ o, h.get? a = some o → h'.get? a = some o) : SsAt P w h' a l := let ⟨D, e, r⟩ := x; ⟨D, k _ e, r⟩
theorem tail_ris {ep : Nat} {es : Array (Int × Value)} {t : SetTable} {dm : Bool} (r : Ris t.place.toList) : Ris (PySem.Froz.tailTx ep es t dm).2.2.place.toList := by
  unfold PySem.Froz.tailTx
  split
  · exact relayAll_ris _ _ _
  · exact r
theorem tail_led {ep : Nat} {es : Array (Int × Value)} {t : SetTable} {dm : Bool} : (PySem.Froz.tailTx ep es t dm).2.2.led = t.led := by
  unfold PySem.Froz.tailTx
  split
  · exact relayAll_led _ _ _
  · rfl
theorem add_ris {D : PySem.Froz.SD} {h : Int} {v : Value} (r : Ris D.2.2.place.toList) : Ris (PySem.Froz.addTx h v D).2.2.place.toList := by
  have q := layNew_ris D.2.2 D.1 h v r
  refine tail_ris ?_
  split
  · exact q
  · exact q
theorem add_led {D : PySem.Froz.SD} {h : Int} {v : Value} : (PySem.Froz.addTx h v D).2.2.led = D.2.2.led := by
  have q := layNew_led D.2.2 D.1 h v
  refine tail_led.trans ?_
  split
  · exact q
  · exact q
section
variable {P : Program} {w : World} {A : Around} {E : Value → Shared → Prop} {s : Shared}
/-- a text that is there is added -/
theorem add_stay {a : Addr} {T : String} {D : PySem.Froz.SD} {l : List Str} {k : Str} {u : Tok} {Q : Bool → Shared → Prop} (ho : s.heap.get? a = some (PySem.Froz.sObj T D)) (F : PySem.Froz.TxOk P w D l) (hk : k ∈ l) (hb : l.length < scanBound) (h : Q false s) :
    wpAny (model P w) A (setAddHashed a (.str k u) (hashStr w k)) Q E s := by
  obtain ⟨es, ep, t⟩ := D
  have hsz : es.size = l.length := F.sz
  have kk : (strKind P w).is k (.str k u) = true := PySem.Froz.is_str k u
  obtain ⟨e, he, hp⟩ := (F.mem k).mp hk
  unfold setAddHashed setAddHashedIn
  refine wpAny_holding (wpAny_bind (wpAny_setState_of ho rfl F.fit ?_))
  dsimp only
  rw [byScan_of rfl (show es.size < scanBound by rw [hsz]; exact hb) F.el]
  simp only [↓reduceIte]
  unfold setAddByScan
  refine wpAny_bind (wpAny_bind (wpAny_rule (wpAny_bind (wpAny_setScan_of (knd := strKind P w) (k := k) kk ho rfl F.fit F.el ?_))))
  cases fi : List.findIdx? (fun e => (strKind P w).is k e.2) es.toList with
  | none => exact absurd (List.findIdx?_eq_none_iff.mp fi e he) (by rw [hp]; decide)
  | some j =>
    dsimp only
    exact wpAny_pure (wpAny_pure h)
theorem ss_add {a : Addr} {l : List Str} {k : Str} {u : Tok} {Q : Bool → Shared → Prop} (x : SsAt P w s.heap a l) (hb : l.length + 1 < scanBound)
    (h : ∀ (h' : Heap) (l' : List Str) (b : Bool), SsAt P w h' a l' → (∀ y, y ∈ l' ↔ y = k ∨ y ∈ l) → l'.length ≤ l.length + 1 → (∀ c o, c ≠ a → s.heap.get? c = some o → h'.get? c = some o) → Q b { s with heap := h' }) :
    wpAny (model P w) A (setAddHashed a (.str k u) (hashStr w k)) Q E s := by
  obtain ⟨D, ho, F, nd, r, led⟩ := x
  by_cases hk : k ∈ l
  · refine add_stay ho F hk (by omega) ?_
    exact h s.heap l false ⟨D, ho, F, nd, r, led⟩ (fun y => ⟨.inr, fun z => z.elim (fun e => e ▸ hk) id⟩) (by omega) fun c o _ e => e
  · refine PySem.Froz.add_x ho F hk hb ?_
    refine h _ (k :: l) true ⟨_, PySem.Froz.get_upd _ ho rfl, PySem.Froz.add_ok u F, List.nodup_cons.mpr ⟨hk, nd⟩, add_ris r, led.imp id fun z => add_led.trans z⟩ (fun y => List.mem_cons) (Nat.le_refl _) fun c o n e => ?_
    exact PySem.Heap.get?_update_of_ne _ (Ne.symm n) e
/-- the signs of x ahead of i -/
def upTo (x : Str) (i : Nat) (k : Str) : Prop := ∃ j c, j < i ∧ x.cps[j]? = some c ∧ k = ⟨#[c]⟩
theorem ss_loop {R : Result → Shared → Prop} {I a : Addr} {x : Str} {t : Tok} (hh : A.in1.handled = none) (ne : a ≠ I) (hz : x.cps.size + 1 < scanBound) : ∀ (k i : Nat) (s : Shared) (l : List Str), x.cps.size - i = k → i ≤ x.cps.size → s.heap.IsStrIter I "str_ascii_iterator" x t i →
    SsAt P w s.heap a l → (∀ y, y ∈ l ↔ upTo x i y) → l.length ≤ i →
    (∀ (h' : Heap) (tk : Nat) (l' : List Str), SsAt P w h' a l' → (∀ y, y ∈ l' ↔ upTo x x.cps.size y) → l'.length ≤ x.cps.size → (∀ c o, c ≠ a → c ≠ I → s.heap.get? c = some o → h'.get? c = some o) → R (.ok (.ret .none)) { s with heap := h', toks := tk }) →
    codeAny (model P w) A (.builtin "set.update.loop" ⟨[.ref a, .ref I], []⟩) R s := by
  have W := Walks.strAscii (prog := P) (w := w) hh I x t
  intro k
  induction k with
  | zero =>
    intro i s l hk hi st hS hm hl hR
    obtain rfl : i = x.cps.size := by omega
    refine codeAny_builtin PyProof.Rows.F.entry_set_update_loop ?_
    rw [Around.under_plainId PyProof.Rows.F.plain_set_update_loop _]
    show wpAny _ A.in1 (pyNext (.ref I) >>= _) _ _ s
    refine wpAny_bind (W.done s _ _ st fun h' tk kp => ?_)
    show wpAny _ A.in1 (ret Value.none) _ _ _
    exact wpAny_pure (hR h' tk l (hS.keep fun o e => kp a o (by simpa using ne) e) hm hl fun c o _ n2 e => kp c o (by simpa using n2) e)
  | succ k ih =>
    intro i s l hk hi st hS hm hl hR
    refine codeAny_builtin PyProof.Rows.F.entry_set_update_loop ?_
    rw [Around.under_plainId PyProof.Rows.F.plain_set_update_loop _]
    show wpAny _ A.in1 (pyNext (.ref I) >>= _) _ _ s
    refine wpAny_bind (W.item i s _ _ (by omega) st fun v h1 tk ⟨c, u, hc, ev⟩ st1 kp => ?_)
    subst ev
    show wpAny _ A.in1 (holding [Value.str ⟨#[c]⟩ u] (setAdd a (.str ⟨#[c]⟩ u)) >>= _) _ _ _
    refine wpAny_bind (wpAny_holding ?_)
    unfold setAdd
    refine wpAny_holding (wpAny_bind ((strKind P w).pyHash (k := ⟨#[c]⟩) (PySem.Froz.is_str _ _) ?_))
    refine ss_add (s := { s with heap := h1, toks := tk + 1 }) (l := l) (hS.keep fun o e => kp a o (by simpa using ne) e) (by omega) fun h2 l2 b hS2 hm2 hl2 kp2 => ?_
    have st2 : h2.IsStrIter I "str_ascii_iterator" x t (i + 1) := W.frame (i + 1) h1 h2 st1 fun b hb o e => kp2 b o (by
      have z : b = I := by simpa using hb
      rw [z]
      exact Ne.symm ne) e
    refine wpAny_pure ⟨plainId_quiet PyProof.Rows.F.plain_set_update_loop _, ih (i + 1) { s with heap := h2, toks := tk + 1 } l2 (by omega) (by omega) st2 hS2 (fun y => ?_) (by omega) fun h3 tk3 l3 hS3 hm3 hl3 kp3 => ?_⟩
    · rw [hm2, hm]
      constructor
      · rintro (rfl | ⟨j, d, hj, hd, rfl⟩)
        · exact ⟨i, c, by omega, hc, rfl⟩
        · exact ⟨j, d, by omega, hd, rfl⟩
      · rintro ⟨j, d, hj, hd, rfl⟩
        rcases Nat.lt_or_ge j i with h | h
        · exact .inr ⟨j, d, h, hd, rfl⟩
        · obtain rfl : j = i := by omega
          rw [hc] at hd
          cases hd
          exact .inl rfl
    · exact hR h3 tk3 l3 hS3 hm3 hl3 fun d o n1 n2 e => kp3 d o n1 n2 (kp2 d o n1 (kp d o (by simpa using n2) e))
/-- a set just made -/
abbrev frS (w : World) : Obj := { cls := .type "set", dict := none, data := .set #[] 0 (.fresh 0 0 (!w.params.followText "set-order")) }
theorem ss_fresh {h : Heap} {a : Addr} (e : h.get? a = some (frS w)) : SsAt P w h a [] := by
  refine ⟨(#[], 0, .fresh 0 0 (!w.params.followText "set-order")), e, PySem.Froz.TxOk.nil (by rfl), .nil, List.Pairwise.nil, ?_⟩
  show _ ∨ (!w.params.followText "set-order") = true
  cases w.params.followText "set-order"
  · exact .inr rfl
  · exact .inl rfl
/-- set(x) of a text of the plain signs -/
theorem call_setTx {x : Str} {t : Tok} {Q : Value → Shared → Prop} (hh : A.handled = none) (hx : x.cps.all (· < 128) = true) (hz : x.cps.size + 1 < scanBound)
    (h : ∀ (h' : Heap) (tk : Nat) (l : List Str), SsAt P w h' s.heap.objs.size l → (∀ y, y ∈ l ↔ upTo x x.cps.size y) → l.length ≤ x.cps.size → (∀ b o, s.heap.get? b = some o → h'.get? b = some o) → Q (.ref s.heap.objs.size) { s with heap := h', toks := tk }) :
    wpAny (model P w) A (call (.type "set") [.str x t]) Q E s := by
  obtain ⟨c, tl, hmro⟩ := PySem.F.called_set.mro
  have cm := PySem.F.called_set.made
  have cs := PySem.F.called_set.sub
  refine wpAny_call (codeAny_of_tree ?_)
  show wpAny _ _ (callAny (.type "set") _) _ _ _
  refine wpAny_pure ⟨Code.quiet_builtin _ (by decide +kernel), codeAny_builtin PySem.F.entry_type_call ?_⟩
  rw [Around.under_plain (weight_type_call_type "set" [.str x t] []) rfl]
  have cn := PySem.F.called_set.notType
  have cc := PySem.F.called_set.canCreate
  have ct := PySem.F.typeCall_set_1 (.str x t)
  repeat (any_goals (first | assumption | wp_step))
  refine codeAny_mono (code_set_led1 (.str x t) (E := E) (Q₁ := fun u s1 => u = .ref s.heap.objs.size ∧ s1 = { s with heap := s.heap.push (frS w) }) ⟨rfl, rfl⟩) fun r s1 hr => ?_
  match r, hr with
  | .error e, hr => exact hr
  | .ok .next, hr => exact hr.elim
  | .ok .brk, hr => exact hr.elim
  | .ok .cont, hr => exact hr.elim
  | .ok (.ret u), hr =>
    obtain ⟨rfl, rfl⟩ := hr
    have at0 : (s.heap.push (frS w)).get? s.heap.objs.size = some (frS w) := Heap.get?_push_size _ rfl
    have ty0 : Shared.TypeIs { s with heap := s.heap.push (frS w) } (.ref s.heap.objs.size) "set" := ⟨_, at0, rfl⟩
    have il := PySem.F.called_set.init.lookup
    have ib := PySem.F.called_set.init.bind (.ref s.heap.objs.size)
    repeat (any_goals (first | assumption | wp_step))
    refine codeAny_mono (codeAny_call_builtin (R := wants (fun r s2 => r = .none ∧ ∃ h' tk l, s2 = { s with heap := h', toks := tk } ∧ SsAt P w h' s.heap.objs.size l ∧ (∀ y, y ∈ l ↔ upTo x x.cps.size y) ∧ l.length ≤ x.cps.size ∧
        (∀ b o, s.heap.get? b = some o → h'.get? b = some o)) E) PySem.F.called_set.init.plain PySem.F.entry_set_init (check_set_init_1 ty0 ?_)) fun r2 s2 h2 => ?_
    · have f1 := PySem.F.sub_str_set
      have f2 := PySem.F.sub_str_frozenset
      have f3 : (Value.type "str" == Value.type "dict") = false := by decide
      unfold Builtin.«set.__init__» noKeywords Builtin.Frozenset.updateFrom
      generalize hPI : pyIter = PI
      wp_walk
      subst hPI
      refine wpAny_pyIter_ascii hx ?_
      refine wpAny_bind (wpAny_runValue ?_)
      have sz1 : (s.heap.push (frS w)).objs.size = s.heap.objs.size + 1 := Heap.size_push ..
      refine ss_loop (t := t) (I := (s.heap.push (frS w)).objs.size) (by simp [hh]) (by rw [sz1]; exact Nat.ne_of_lt (Nat.lt_succ_self _)) hz (x.cps.size - 0) 0 _ [] rfl (Nat.zero_le _) ⟨_, Heap.get?_push_size _ rfl, rfl, rfl⟩ (ss_fresh (Heap.get?_push_of_some _ at0))
        (fun y => ⟨fun z => (by cases z), fun ⟨j, c, hj, _⟩ => absurd hj (Nat.not_lt_zero _)⟩) (Nat.le_refl _) fun h' tk l hS hm hl kp => ?_
      show wpAny _ _ _ _ _ _
      refine wpAny_pure ?_
      show wpAny _ _ (ret Value.none) _ _ _
      refine wpAny_pure ⟨rfl, h', tk, l, rfl, hS, hm, hl, fun b o e => ?_⟩
      have lt := Heap.lt_size e
      exact kp b o (Nat.ne_of_lt lt) (by rw [sz1]; exact Nat.ne_of_lt (Nat.lt_succ_of_lt lt)) (Heap.get?_push_of_some _ (Heap.get?_push_of_some _ e))
    · match r2, h2 with
      | .error e, h2 => exact h2
      | .ok .next, h2 => exact h2.elim
      | .ok .brk, h2 => exact h2.elim
      | .ok .cont, h2 => exact h2.elim
      | .ok (.ret r), h2 =>
        obtain ⟨rfl, h', tk, l, rfl, hS, hm, hl, kp⟩ := h2
        repeat (any_goals (first | assumption | wp_step))
        exact h _ _ _ hS hm hl kp
end
end Rz

namespace Rz
open PySem PySem.Spec PyProof.Rows L2
/-! ### sorted(set) of texts -/
theorem perm_sub : ∀ {l ys : List Str}, l.Nodup → (∀ k ∈ l, k ∈ ys) → ys.length = l.length → ys.Perm l
  | [], ys, _, _, e => by
    rw [List.eq_nil_of_length_eq_zero e]
  | k :: l, ys, nd, sub, e => by
    obtain ⟨n1, n2⟩ := List.nodup_cons.mp nd
    have hk := sub k List.mem_cons_self
    have p := List.perm_cons_erase hk
    refine p.trans (.cons k (perm_sub n2 (fun j hj => ?_) ?_))
    · exact (List.mem_erase_of_ne (show j ≠ k from fun z => n1 (by rw [← z]; exact hj))).mpr (sub j (List.mem_cons_of_mem _ hj))
    · have q := List.length_erase_of_mem hk
      have e2 : ys.length = l.length + 1 := e
      omega
theorem strs_of : ∀ {vs : List Value}, (∀ v ∈ vs, ∃ k t, v = Value.str k t) → ∃ ys, StrsAre vs ys ∧ ∀ k t, Value.str k t ∈ vs → k ∈ ys
  | [], _ => ⟨[], .nil, fun k t h => by cases h⟩
  | v :: vs, h => by
    obtain ⟨k, t, rfl⟩ := h v List.mem_cons_self
    obtain ⟨ys, r, m⟩ := strs_of (vs := vs) fun u hu => h u (List.mem_cons_of_mem _ hu)
    refine ⟨k :: ys, .cons k t r, fun j u hj => ?_⟩
    rcases List.mem_cons.mp hj with e | e
    · cases e
      exact List.mem_cons_self
    · exact List.mem_cons_of_mem _ (m j u e)
section
variable {P : Program} {w : World} {A : Around} {E : Value → Shared → Prop} {s : Shared} {a : Addr} {l : List Str}
theorem sorted_ss {Q : Value → Shared → Prop} (x : SsAt P w s.heap a l) (hh : A.handled = none) (h64 : l.length < 64)
    (hQ : ∀ (s' : Shared) (p : Addr) (out : Array Value) (c : Nat) (ys : List Str), (∀ b o, s.heap.get? b = some o → s'.heap.get? b = some o) → s'.gens = s.gens → s'.os = s.os → s.heap.objs.size ≤ p →
      s'.heap.get? p = some (seqObj "list" out c) → StrsAre out.toList ys → ys.Perm l → sortedS ys = true → Q (.ref p) s') :
    wpAny (model P w) A (call (.builtin "sorted") [.ref a]) Q E s := by
  obtain ⟨⟨es, ep, t⟩, ho, F, nd, r, led⟩ := x
  have sz : es.size = l.length := F.sz
  have el : ElemsOf (strKind P w) es.toList := F.el
  have mm : ∀ k : Str, k ∈ l ↔ ∃ e ∈ es.toList, (strKind P w).is k e.2 = true := F.mem
  refine Calls.call_function_entry kind_sorted plain_sorted entry_sorted (args_sorted1 _) ?_
  unfold Builtin.«sorted»
  refine wpAny_bind (m := checkCount "sorted" 1 1 _) (wpAny_pure ?_)
  refine wpAny_bind (collect_set (A := A.in1) hh ⟨_, ho, rfl, rfl⟩ F.fit (show es.size < scanBound by rw [sz]; unfold scanBound; omega) r led fun s1 vs k1 z1 g1 o1 pv => ?_)
  have vl : vs.length = l.length := by rw [pv.length_eq, List.length_map, Array.length_toList, sz]
  obtain ⟨ys0, S0, m0⟩ := strs_of (vs := vs) fun v hv => by
    obtain ⟨e, he, q⟩ := List.mem_map.mp (pv.mem_iff.mp hv)
    obtain ⟨⟨k, h1, _⟩, _⟩ := el e he
    obtain ⟨tk, e1⟩ := Value.isStrOf_shape (x := k) (v := e.2) h1
    exact ⟨k, tk, by rw [← q]; exact e1⟩
  have p0 : ys0.Perm l := perm_sub nd (fun k hk => by
    obtain ⟨e, he, q⟩ := (mm k).mp hk
    obtain ⟨tk, e1⟩ := Value.isStrOf_shape (x := k) (v := e.2) q
    exact m0 k tk (pv.mem_iff.mpr (List.mem_map.mpr ⟨e, he, e1⟩))) (by rw [← StrsAre.len_eq S0, vl])
  refine wpAny_bind (wpAny_newList ?_ (by rw [vl, sizeLine_eq]; omega))
  have at1 : (s1.heap.push (seqObj "list" vs.toArray 0)).get? s1.heap.objs.size = some (seqObj "list" vs.toArray 0) := Heap.get?_push_size _ rfl
  refine wpAny_bind (wpAny_holding (wpAny_call_entry slot_list_sort ⟨_, at1, rfl⟩ entry_list_sort (list_sort_treeK strKind_oneLt at1 S0.keysOf (fun v1 v2 rest e => keyKind_strs (by rw [← e]; exact S0)) (by rw [vl]; exact h64) fun st' hp hs => ⟨_, rfl, ?_⟩) (args_list_sort _)))
  obtain ⟨ys, a1, a2, a3⟩ := sorted_out_str S0 hp hs
  obtain ⟨c, hc⟩ := sortedHeap_at (vs := vs) (out := (arrOf st').map (·.2)) at1
  refine wpAny_pure ⟨_, rfl, hQ _ s1.heap.objs.size _ c ys (fun b u e => ?_) g1 o1 z1 hc a1 (a2.trans p0) a3⟩
  have q := k1 b u e
  have lt := Heap.lt_size q
  show (sortedHeap (s1.heap.push (seqObj "list" vs.toArray 0)) s1.heap.objs.size vs _).get? b = some u
  rw [sortedHeap_old (Nat.ne_of_lt lt) (by rw [size_push']; exact Nat.lt_succ_of_lt lt)]
  exact Heap.get?_push_of_some _ q
end
/-- the set at a, tracked -/
def SsO (P : Program) (w : World) (a : Addr) (l : List Str) : HO := .ext fun h => SsAt P w h a l
theorem ssO_ok {P : Program} {w : World} {H : Hp} {h : Heap} {a : Addr} {l : List Str} (x : SsAt P w h a l) : ObjOk P w H h a (SsO P w a l) :=
  ⟨x, let ⟨_, e, _⟩ := x; ⟨_, e⟩, fun h1 h2 q k => SsAt.keep q fun o e => k o e⟩
def rSetTx (P : Program) (w : World) : List V → Hp → VK → Prop := fun xs H Q => ∃ x : Str, xs = [.str x] ∧ x.cps.all (· < 128) = true ∧ x.cps.size + 1 < scanBound ∧
  ∀ (p : Addr) (l : List Str), H p = none → (∀ y, y ∈ l ↔ upTo x x.cps.size y) → l.Nodup → l.length ≤ x.cps.size → Q (.ref p) (upd H p (SsO P w p l))
def rSortSs (P : Program) (w : World) : List V → Hp → VK → Prop := fun vs H Q => ∃ (a : Addr) (l : List Str), vs = [.ref a] ∧ H a = some (SsO P w a l) ∧ l.length < 64 ∧
  ∀ (ys : List Str) (p : Addr), ys.Perm l → sortedS ys = true → H p = none → Q (.ref p) (upd H p (.lst (ys.map V.str)))
section
variable {X : Cx}
theorem cr_setTx (hc : X.calm = true) : CallR X (.type "set") (rSetTx X.prog X.w) := by
  intro pins s σ H xs us Q I r h
  obtain ⟨x, rfl, ha, hz, q⟩ := h
  obtain ⟨u, rfl, t, rfl⟩ := vals1 r
  refine call_setTx (I.ok.hd hc) ha hz fun h' tk l hS hm hl kp => ?_
  exact ⟨.ref s.heap.objs.size, _, I.laid (t' := tk) kp (Nat.le_refl _) (ssO_ok hS), rfl, q _ l (I.hok.fresh (Nat.le_refl _)) hm (let ⟨_, _, _, nd, _⟩ := hS; nd) hl⟩
theorem cr_sortSs (hc : X.calm = true) : CallR X (.builtin "sorted") (rSortSs X.prog X.w) := by
  intro pins s σ H vs us Q I r h
  obtain ⟨a, l, rfl, ha, h64, q⟩ := h
  rw [Vals.ref1 r]
  have hS : SsAt X.prog X.w s.heap a l := (I.hok a _ ha).1
  refine sorted_ss hS (I.ok.hd hc) h64 fun s' p out c ys k g o hp hg hi pm hs => ?_
  have hlen : (ys.map V.str).length ≤ sizeLine := by rw [List.length_map, pm.length_eq, sizeLine_eq]; omega
  have hn : H p = none := I.hok.fresh hp
  have J : Inv X pins σ (upd H p (.lst (ys.map V.str))) { s with heap := s'.heap, gens := s'.gens, drawn := s'.drawn, toks := s'.toks } :=
    I.call (ch := []) (Un.laid k hp hn) (I.hok.laid k hp ⟨hlen, out.toList, c, vals_of_strs hi, hg⟩) (by rw [g]; exact I.bare) (fun _ z => nomatch z)
  have e : s' = { s with heap := s'.heap, gens := s'.gens, drawn := s'.drawn, toks := s'.toks } := by
    obtain ⟨_, _, _, _, _⟩ := s'
    obtain rfl := o
    rfl
  rw [e]
  exact ⟨.ref p, _, J, rfl, q ys p pm hs hn⟩
end
end Rz
namespace Rz
open PySem PySem.Spec PyProof.Rows L2
/-! ### ascending signs -/
theorem rise_eq : ∀ {a b : List Nat}, a.Pairwise (· < ·) → b.Pairwise (· < ·) → (∀ x, x ∈ a ↔ x ∈ b) → a = b
  | [], [], _, _, _ => rfl
  | [], y :: b, _, _, h => absurd ((h y).mpr List.mem_cons_self) (by simp)
  | x :: a, [], _, _, h => absurd ((h x).mp List.mem_cons_self) (by simp)
  | x :: a, y :: b, ha, hb, h => by
    obtain ⟨a1, a2⟩ := List.pairwise_cons.mp ha
    obtain ⟨b1, b2⟩ := List.pairwise_cons.mp hb
    have e : x = y := by
      rcases List.mem_cons.mp ((h x).mp List.mem_cons_self) with e | e
      · exact e
      · rcases List.mem_cons.mp ((h y).mpr List.mem_cons_self) with f | f
        · exact f.symm
        · have := b1 x e
          have := a1 y f
          omega
    subst e
    refine congrArg (x :: ·) (rise_eq a2 b2 fun z => ⟨fun hz => ?_, fun hz => ?_⟩)
    · rcases List.mem_cons.mp ((h z).mp (List.mem_cons_of_mem _ hz)) with f | f
      · have := a1 z hz
        omega
      · exact f
    · rcases List.mem_cons.mp ((h z).mpr (List.mem_cons_of_mem _ hz)) with f | f
      · have := b1 z hz
        omega
      · exact f
def sgs (cs : List Nat) : List Str := cs.map fun c => ⟨#[c]⟩
theorem rise_of : ∀ (cs : List Nat) (p : Nat), risingS ⟨#[p]⟩ (sgs cs) = true → (p :: cs).Nodup → (p :: cs).Pairwise (· < ·)
  | [], p, _, _ => by simp
  | c :: cs, p, h, nd => by
    have e : (!ltCps [c] [p] && risingS ⟨#[c]⟩ (sgs cs)) = true := h
    rw [Bool.and_eq_true] at e
    obtain ⟨n1, n2⟩ := List.nodup_cons.mp nd
    have ih := rise_of cs c e.2 n2
    have lt : p < c := by
      have h1 : ltCps [c] [p] = false := by simpa using e.1
      have h2 : ¬ c < p := fun z => by
        have : ltCps [c] [p] = true := by simp [ltCps, z]
        rw [this] at h1
        cases h1
      have h3 : p ≠ c := fun z => n1 (by rw [z]; exact List.mem_cons_self)
      omega
    refine List.pairwise_cons.mpr ⟨fun x hx => ?_, ih⟩
    rcases List.mem_cons.mp hx with f | f
    · rw [f]
      exact lt
    · have := (List.pairwise_cons.mp ih).1 x f
      omega
theorem rise_sorted : ∀ (cs : List Nat), sortedS (sgs cs) = true → cs.Nodup → cs.Pairwise (· < ·)
  | [], _, _ => .nil
  | c :: cs, h, nd => rise_of cs c h nd
theorem sgs_nodup : ∀ {cs : List Nat}, (sgs cs).Nodup → cs.Nodup
  | [], _ => .nil
  | c :: cs, h => by
    obtain ⟨h1, h2⟩ := List.nodup_cons.mp (show ((⟨#[c]⟩ : Str) :: sgs cs).Nodup from h)
    exact List.nodup_cons.mpr ⟨fun z => h1 (List.mem_map.mpr ⟨c, z, rfl⟩), sgs_nodup h2⟩
theorem sgs_of : ∀ {ys : List Str}, (∀ y ∈ ys, ∃ c : Nat, y = ⟨#[c]⟩) → ∃ cs, ys = sgs cs
  | [], _ => ⟨[], rfl⟩
  | y :: ys, h => by
    obtain ⟨c, rfl⟩ := h y List.mem_cons_self
    obtain ⟨cs, rfl⟩ := sgs_of (ys := ys) fun z hz => h z (List.mem_cons_of_mem _ hz)
    exact ⟨c :: cs, rfl⟩
/-- what sorted(set(x)) is: the signs of x, ascending -/
theorem sorted_signs {x : Str} {l ys : List Str} {ds : List Nat} (hm : ∀ y, y ∈ l ↔ upTo x x.cps.size y) (nd : l.Nodup) (p : ys.Perm l) (hs : sortedS ys = true) (hd : ds.Pairwise (· < ·)) (hx : ∀ c, c ∈ ds ↔ c ∈ x.cps.toList) : ys = sgs ds := by
  have one : ∀ y, y ∈ ys ↔ ∃ c, c ∈ x.cps.toList ∧ y = ⟨#[c]⟩ := fun y => by
    rw [p.mem_iff, hm]
    constructor
    · rintro ⟨j, c, hj, hc, rfl⟩
      exact ⟨c, List.mem_of_getElem? (by rw [Array.getElem?_toList]; exact hc), rfl⟩
    · rintro ⟨c, hc, rfl⟩
      obtain ⟨j, hj⟩ := List.mem_iff_getElem?.mp hc
      rw [Array.getElem?_toList] at hj
      have lt : j < x.cps.size := by
        rcases Nat.lt_or_ge j x.cps.size with h | h
        · exact h
        · rw [Array.getElem?_eq_none h] at hj; cases hj
      exact ⟨j, c, lt, hj, rfl⟩
  obtain ⟨cs, rfl⟩ := sgs_of (ys := ys) fun y hy => let ⟨c, _, e⟩ := (one y).mp hy; ⟨c, e⟩
  have ndc := sgs_nodup (p.nodup_iff.mpr nd)
  refine congrArg sgs (rise_eq (rise_sorted cs hs ndc) hd fun c => ?_)
  rw [hx]
  constructor
  · intro hc
    obtain ⟨d, hd, e⟩ := (one ⟨#[c]⟩).mp (List.mem_map.mpr ⟨c, hc, rfl⟩)
    have e2 : c = d := by
      have q := congrArg (fun y : Str => y.cps.toList) e
      simpa using q
    rw [e2]
    exact hd
  · intro hc
    obtain ⟨d, hd, e⟩ := List.mem_map.mp ((one ⟨#[c]⟩).mpr ⟨c, hc, rfl⟩)
    have e2 : d = c := by
      have q := congrArg (fun y : Str => y.cps.toList) e
      simpa using q
    rw [← e2]
    exact hd
end Rz

namespace Rz
open PySem PySem.Spec PyProof.Rows L2
/-! ### a try whose body lets nothing out here -/
def WNo : WX := fun _ _ _ _ => False
section
variable {X : Cx} {body : List Stmt} {h0 : ExceptHandler} {hds : List ExceptHandler} {pos : Pos} {tb : TS}
theorem ps_try_no (hb : ∀ (pn : List (Addr × Obj)) (xe : Value → Shared → Prop), Takes (X.tr pn xe) WNo → PassesOwn (model X.prog X.w) X.A X.env xe → PSs (X.tr pn xe) body tb) : PS X (.Try body (h0 :: hds) [] [] pos) tb := by
  refine ⟨fun pins s σ H D I h => ?_⟩
  have ok := I.ok
  refine wpAny_Try_except ?_
  refine wpAny_mono ((hb (X.pn ++ pins) (fun e sa => wpAny (model X.prog X.w) X.A (noteFrame e X.env) (fun _ sb => wpAny (model X.prog X.w) X.A (setFlight e none) (fun _ sc =>
    wpAny (model X.prog X.w) X.A (handleBy e X.env (h0 :: hds)) (SP X pins D) X.xe sc) X.xe sb) X.xe sa) (fun u s2 air => ?_) PassesOwn.looking).run [] s σ H D (I.toTry _) h) (fun f s1 hsp => ?_) (fun e s1 he => he)
  · obtain ⟨a, B, sI, pins2, σ2, H2, cls, d, rfl, J0, nb, up, sky, na, os, ag, w⟩ := air
    exact w.elim
  · match f, hsp with
    | .next, hsp => obtain ⟨_, _, S6, q6⟩ := hsp; exact wpAny_execs_nil ⟨_, _, S6.ofTry ok, q6⟩
    | .brk, hsp => obtain ⟨_, _, S6, q6⟩ := hsp; exact ⟨_, _, S6.ofTry ok, q6⟩
    | .cont, hsp => obtain ⟨_, _, S6, q6⟩ := hsp; exact ⟨_, _, S6.ofTry ok, q6⟩
    | .ret u, hsp => obtain ⟨_, _, _, S6, r6, q6⟩ := hsp; exact ⟨_, _, _, S6.ofTry ok, r6, q6⟩
end
end Rz

namespace Rz
open PySem PySem.Spec PyProof.Rows L2
/-! ### enumerate(list, start=k) -/
/-- the list at a as it stands at each turn, each item in a new pair, counted from k -/
def IteF (K : PySem.W.Frag) (k : Int) (a : Addr) : It :=
  ⟨fun i H => ∃ (xs : List V) (x : V), SqL K H a xs ∧ xs[i]? = some x, fun i H v H' => ∃ T x, v = .ref T ∧ H T = none ∧ H' = upd H T (.tup [.int (k + (i : Nat)), x]) ∧ ∀ xs, SqL K H a xs → xs[i]? = some x, fun i H => ∃ xs : List V, SqL K H a xs ∧ i = xs.length⟩
theorem ne_it {h : Heap} {a it : Addr} {items : Array Value} {i : Nat} (l : h.IsList a items) (t : h.IsListIter it a i) : a ≠ it := fun z => by
  obtain ⟨o1, h1, c1, _⟩ := l
  obtain ⟨o2, h2, c2, _⟩ := t
  rw [z, h2] at h1
  obtain rfl := Option.some.inj h1
  rw [c2] at c1
  exact absurd c1 (by decide)
theorem ne_en {h : Heap} {a e it : Addr} {items : Array Value} {c : Int} {old : Value} (l : h.IsList a items) (t : IsEnum h e it c old) : a ≠ e := fun z => by
  obtain ⟨o1, h1, c1, _⟩ := l
  have h2 : h.get? e = _ := t
  rw [z, h2] at h1
  obtain rfl := Option.some.inj h1
  exact absurd (show Value.type "enumerate" = Value.type "list" from c1) (by decide)
theorem turn_enumF {P : Program} {w : World} {K : PySem.W.Frag} {elts : List Expr} {kk : Nat} {tpos : Pos} (c : Int) (a e it : Addr) :
    Turn P w K (.Tuple elts kk tpos) (IteF K c a) [e, it] e (fun i h => (∃ old, IsEnum h e it (c + ((i : Nat) : Int)) old) ∧ h.IsListIter it a i ∧ e ≠ it) where
  mem := by simp
  obj := fun i h st b hb => by
    obtain ⟨⟨old, he⟩, ⟨o, ho, hc, hd⟩, _⟩ := st
    rcases (show b = e ∨ b = it by simpa using hb) with rfl | rfl
    · exact ⟨_, he, fun v q => nomatch q⟩
    · exact ⟨o, ho, fun v q => by rw [hd] at q; cases q⟩
  keep := fun i h h' st k => let ⟨⟨old, he⟩, hi, hne⟩ := st; ⟨⟨old, k e (by simp) _ he⟩, hi.at fun o q => k it (by simp) o q, hne⟩
  item := by
    intro X hP hw hK hc i pins s σ H E I hf st hg
    subst hP hw hK
    obtain ⟨⟨old, he⟩, hit, hne⟩ := st
    obtain ⟨xs, x, hq, hx⟩ := hg
    obtain ⟨its, rv, p, hz⟩ := I.list hq
    obtain ⟨u, hu, ru⟩ := rv.get hx
    have le : e < s.heap.objs.size := Heap.lt_size he
    have li : it < s.heap.objs.size := by obtain ⟨_, q, _⟩ := hit; exact Heap.lt_size q
    have D := Draws.list (prog := X.prog) (w := X.w) (A := X.A.in1) (I.ok.hd hc) it a (ne_it p.isList hit) its.toArray
    have lt : i < its.toArray.size := by
      have q := (List.getElem?_eq_some_iff.mp hu).1
      rw [List.size_toArray]
      exact q
    refine wpAny_pyNext_enum_itemC D he ⟨hit, p.isList⟩ lt hne (by
      have q := ne_en p.isList he
      simp [hne, Ne.symm q]) fun u1 h1 tk hu1 ho hit1 hT hsz hk => ?_
    obtain rfl : u1 = u := by
      rw [List.getElem?_toArray, hu] at hu1
      exact (Option.some.inj hu1).symm
    refine ⟨_, rfl, wpAny_letOwnedTupleGo_enum (s := { s with heap := h1, toks := tk + 1 }) ho fun h2 he2 sb => ?_⟩
    have at2 : h2.get? s.heap.objs.size = some { cls := .type "tuple", data := .seq #[.int (c + i) tk, u1] } := (sb.2 _ (Nat.ne_of_gt le)).trans hT
    have nw : ObjOk X.prog X.w (upd H s.heap.objs.size (.tup [.int (c + (i : Nat)), x])) h2 s.heap.objs.size (.tup [.int (c + (i : Nat)), x]) :=
      ⟨by show 2 ≤ sizeLine; decide, [.int (c + i) tk, u1], .cons ⟨_, rfl⟩ (.cons ru .nil), ⟨_, at2, rfl, _, rfl⟩⟩
    have J : Inv X pins σ (upd H s.heap.objs.size (.tup [.int (c + (i : Nat)), x])) { s with heap := h2, toks := tk + 1 } :=
      I.turnedNew (t' := tk + 1) (ch := [e, it]) (fun b ob hb q => (sb.2 b (fun z => hb (by simp [z]))).trans (hk b ob (fun z => hb (by simp [z])) (fun z => hb (by simp [z])) q)) hf (Nat.le_refl _) nw
    refine ⟨.ref s.heap.objs.size, _, J, rfl, ⟨_, x, rfl, I.hok.fresh (Nat.le_refl _), rfl, fun ys hy => by rw [I.list_inj hy hq]; exact hx⟩, ⟨⟨u1, ?_⟩, hit1.1.at fun o q => (sb.2 it (Ne.symm hne)).trans q, hne⟩, fun b hb => ?_⟩
    · have e1 : c + ((i + 1 : Nat) : Int) = c + (i : Int) + 1 := by omega
      rw [e1]
      exact he2
    · have lb : b < s.heap.objs.size := by
        rcases (show b = e ∨ b = it by simpa using hb) with rfl | rfl
        · exact le
        · exact li
      rw [upd_ne (Nat.ne_of_lt lb)]
      exact (hf b hb).1
  done := by
    intro X hP hw hK hc i pins s σ H E I hf st hg
    subst hP hw hK
    obtain ⟨⟨old, he⟩, hit, hne⟩ := st
    obtain ⟨xs, hq, hx⟩ := hg
    obtain ⟨its, rv, p, hz⟩ := I.list hq
    obtain ⟨f0, f1, f2, f3, f4, f5⟩ := hf it (by simp)
    have hl := rv.length
    have D := Draws.list (prog := X.prog) (w := X.w) (A := X.A.in1) (I.ok.hd hc) it a (ne_it p.isList hit) its.toArray
    obtain rfl : i = its.toArray.size := by
      rw [List.size_toArray]
      omega
    exact wpAny_pyNext_enum_endD D he ⟨hit, p.isList⟩ fun h' eb => ⟨rfl, I.turned (t' := s.toks) (fun b o hb q => eb b o hb q) f0 f1 f3 f4 f5⟩
  self := fun A i s Q E st h => let ⟨⟨_, he⟩, _⟩ := st; wpAny_pyIter_enum he h
section
variable {M : Model} {A : Around} {E : Value → Shared → Prop} {s : Shared} {env : Env}
theorem callWith_typeKw {pos : Pos} {T : String} {args : List (Bool × Sem Value)} {kw : List (Option Str × Sem Value)} {Q : Value → Shared → Prop} (hplain : args.any (·.1) = false) (hkw : kw.any (·.1.isNone) = false)
    (h : wpAny M A (evalArgs (.type T) true args kw) (fun a s₁ => wpAny M A (call (.type T) ([] ++ a.pos) a.kw) Q E s₁) E s) : wpAny M A (callWith pos (.type T) [] args kw) Q E s := by
  unfold callWith
  refine wpAny_bind (wpAny_holding (wpAny_mono h (fun a s1 h1 => wpAny_bind (wpAny_standAt ?_)) fun _ _ x => x))
  simp only [hplain, hkw, Bool.or_false]
  refine wpAny_bind (wpAny_pure ?_)
  exact wpAny_bind (wpAny_mono h1 (fun r s2 hr => wpAny_bind (wpAny_holding (wpAny_point (wpAny_pure hr)))) fun _ _ x => x)
end
def iEnumF (K : PySem.W.Frag) (ta tk : TA) : TI := fun σ H R => ta σ H fun vs H1 => tk σ H1 fun zs H2 => ∃ a xs k, vs = [.ref a] ∧ zs = [.int k] ∧ 0 ≤ k ∧ k < 2 ^ 62 ∧ SqL K H2 a xs ∧ R (IteF K k a) H2
theorem pi_enumF {X : Cx} {e : Expr} {kws : List Keyword} {ta tk : TA} {p pos tpos : Pos} {elts : List Expr} {kk : Nat} (hg : Gl X "enumerate") (hm : X.mg "enumerate" = none) (ha : PA X [e] ta) (hkw : PK X kws tk)
    (he : starEach [e] X.env = (false, eval e X.env) :: starEach [] X.env := by rfl) (hpl : (backTo pos (starEach [e] X.env)).any (·.1) = false := by rfl)
    (hall : (backToKw pos (keywordEach kws X.env)).all (·.1.isSome) = true := by rfl) (hnone : (backToKw pos (keywordEach kws X.env)).any (·.1.isNone) = false := by rfl) (hks : (backToKw pos (keywordEach kws X.env)).filterMap (·.1) = [Str.ofString "start"] := by rfl) :
    PI X (.Tuple elts kk tpos) (.Call (.Name "enumerate" p) [e] kws pos) (iEnumF X.K ta tk) := by
  refine ⟨fun pins s σ H R I h => ?_⟩
  refine wpAny_Call_Name_kw (ld_blt (u := .type "enumerate") I hg hm boot_enumerate (callWith_typeKw hpl hnone (evalArgs_kw2 hall (thn (ha.run pos pins s σ H _ I h) fun us s1 ⟨vs, H1, I1, r1, q1⟩ => thn (hkw.run pos pins s1 σ H1 _ I1 q1) fun ws s2 ⟨zs, H2, I2, r2, q2⟩ => ?_) he)) (by decide) (by decide))
  rw [hks]
  obtain ⟨a, xs, k, rfl, rfl, k0, k1, hq, q⟩ := q2
  obtain ⟨u, rfl, ru⟩ := vals1 r1
  obtain rfl : u = Value.ref a := ru
  obtain ⟨z, rfl, t, rfl⟩ := vals1 r2
  obtain ⟨its, rv, pl, hz⟩ := I2.list hq
  refine enum_begins_start (begins_list a its.toArray) pl.isList (by omega) (by omega) fun h' he hit hsz hk => wpAny_pyIter_enum he ?_
  have J : Inv X pins σ H2 { s2 with heap := h' } := I2.kept (t' := s2.toks) hk
  refine ⟨s2.heap.objs.size + 1, [s2.heap.objs.size + 1, s2.heap.objs.size], _, _, H2, rfl, J, turn_enumF k a (s2.heap.objs.size + 1) s2.heap.objs.size, ⟨⟨.none, ?_⟩, ⟨_, hit, rfl, rfl⟩, Nat.succ_ne_self _⟩, fun b hb => ?_, q⟩
  · have e0 : k + ((0 : Nat) : Int) = k := by simp
    rw [e0]
    exact he
  · have le : s2.heap.objs.size ≤ b := by
      rcases (show b = s2.heap.objs.size + 1 ∨ b = s2.heap.objs.size by simpa using hb) with z | z
      · rw [z]; exact Nat.le_add_right _ _
      · rw [z]; exact Nat.le_refl _
    exact I2.fpOk le (I2.hok.fresh le)
end Rz
namespace Rz
open PySem PySem.Spec PyProof.Rows L2
theorem walk_enumF {K : PySem.W.Frag} {k : Int} {a : Addr} {xs : List V} : Walk (IteF K k a) xs.length (fun H => SqL K H a xs) (fun i H v H' => ∃ T x, v = .ref T ∧ H T = none ∧ H' = upd H T (.tup [.int (k + (i : Nat)), x]) ∧ xs[i]? = some x) :=
  ⟨fun i H hi h => ⟨xs, _, h, List.getElem?_eq_getElem hi⟩, fun H h => ⟨xs, h, rfl⟩, fun i H v H' _ h y => by
    obtain ⟨T, x, e1, e2, e3, e4⟩ := y
    exact ⟨T, x, e1, e2, e3, e4 xs h⟩⟩
theorem joinL_len (s : List Nat) : ∀ ps : List (List Nat), (TL.joinL s ps).length ≤ (ps.map List.length).sum + ps.length * s.length
  | [] => by
    show ([] : List Nat).length ≤ _
    simp
  | [p] => by
    show p.length ≤ _
    simp
  | p :: q :: r => by
    have ih := joinL_len s (q :: r)
    have e : (TL.joinL s (p :: q :: r)).length = p.length + (s.length + (TL.joinL s (q :: r)).length) := by
      show (p ++ (s ++ TL.joinL s (q :: r))).length = _
      rw [List.length_append, List.length_append]
    have m : (p :: q :: r).length * s.length = s.length + (q :: r).length * s.length := by
      rw [List.length_cons, Nat.succ_mul, Nat.add_comm]
    rw [e, m, List.map_cons, List.sum_cons]
    omega
end Rz

namespace Rz
open PySem PySem.Spec PyProof.Rows L2
/-! ### o += x by an own __iadd__ that may let an exception out -/
section
variable {X : Cx} {k : Nat} {f C : Addr} {fd : FuncData} {ps : List Str} {sp : Sp} {E : EX}
def tIpX (C : Addr) (sp : Sp) (E : EX) : V → V → Hp → VK → Prop := fun x y H Q => ∃ a dx fs, x = .ref a ∧ H a = some (.ins C dx fs) ∧ ∀ σ, sp [x, y] H (fun v H' => (∃ b, v = .ref b) ∧ Q v H') (E σ)
theorem ip_ownX (M : Meth X.K C "__iadd__" f) (hc : PySem.W.selfFirst X.K C = true) (F : FnOk X.prog X.w X.K X.mg X.base (L2.CX X.prog X.w) k f fd ps sp) (hr : Room k X.A) (hb : Binds X.K fd ps []) (hx : ∀ σ, PassesAt (L2.CX X.prog X.w) X σ (E σ)) : PIp X .Add (tIpX C sp E) := by
  intro pins s σ H x y v u Q I r1 r2 h
  obtain ⟨a, dx, fs, rfl, ea, hq⟩ := h
  obtain rfl : v = Value.ref a := r1
  obtain ⟨od, J⟩ := inst_at I ea
  obtain ⟨m0, hF⟩ := I.fr
  have z := run_X (us := [.ref a, u]) (vs := [.ref a, y]) F hr rfl hb .nil (hx σ) I (.cons rfl (.cons r2 .nil)) (by rw [List.append_nil]; exact hq σ)
  refine PySem.W.ksp_inplace hF I.ok.mod.kin J hc M.at_ M.fn (wpAny_call (codeAny_mono z fun q s' hq => ?_))
  match q, hq with
  | .error er, hq => exact hq
  | .ok (.ret r), hq =>
    obtain ⟨z, H', J', rz, ⟨b, rfl⟩, q⟩ := hq
    obtain rfl : r = Value.ref b := rz
    exact ⟨.ref b, H', J', rfl, q⟩
  | .ok .next, hq => exact hq.elim
  | .ok .brk, hq => exact hq.elim
  | .ok .cont, hq => exact hq.elim
end
end Rz

namespace Rz
open PySem PySem.Spec PyProof.Rows L2 GenW
/-! ### if and for in the body of a generator -/
section
variable {M : Model} {A : Around} {R : GenEnd} {Y : Protocol} {n : Nat} {s₀ : Shared} {c : Code} {fs : List Frame} {s : Shared} {env : Env}
  {K : Flow → Sem PySem.Fin} {H : Value → Sem PySem.Fin} {gd : Bool → Bool} {lv : List Value → List Value}
theorem seg_iff_stmt {test : Expr} {body orelse : List Stmt} {pos : Pos}
    (h : wpAny M (A.over c fs) (isTrue test env (eval test env)) (fun b s' => if b = true then Seg M A R Y n s₀ c ((execs body env).wrap K H gd lv) fs s' else Seg M A R Y n s₀ c ((execs orelse env).wrap K H gd lv) fs s') (fun x s' => Seg M A R Y n s₀ c (H x) fs s') s) :
    Seg M A R Y n s₀ c ((exec (.If test body orelse pos) env).wrap K H gd lv) fs s := by
  show Seg M A R Y n s₀ c ((standAt pos >>= fun _ => isTrue test env (eval test env) >>= fun b => if b = true then execs body env else execs orelse env).wrap K H gd lv) fs s
  refine seg_bind_wrap (wpAny_standAt ?_)
  refine seg_bind_wrap (wpAny_mono h (fun b s' hb => ?_) fun _ _ z => z)
  cases b with
  | true => exact hb
  | false => exact hb
theorem seg_For {target iter : Expr} {body orelse : List Stmt} {pos : Pos}
    (h : wpAny M (A.over c fs) (eval iter env) (fun x s1 => wpAny M (A.over c fs) (pyIter x) (fun it s2 => ∀ p, Seg M A R Y n s₀ (.forLoop target it body orelse env) (M.den (.forLoop target it body orelse env))
      (.ret (fun r => ((match r with | .ok f => (.pure f : Sem Flow) | .error e => .raise e).onRaise (cameBack env)).wrap K H gd lv) none (gd false) (lv []) c p [] :: fs) s2)
      (fun x s' => Seg M A R Y n s₀ c (H x) fs s') s1) (fun x s' => Seg M A R Y n s₀ c (H x) fs s') s)
    (hs : ∀ x, foldedSetIterable iter env x = pure x) :
    Seg M A R Y n s₀ c ((exec (.For target iter body orelse pos) env).wrap K H gd lv) fs s := by
  rw [exec_For]
  refine seg_bind_wrap (wpAny_standAt ?_)
  refine seg_bind_wrap (wpAny_mono h (fun x s1 h1 => ?_) fun _ _ z => z)
  refine seg_bind_wrap (wpAny_of_eq (hs x) ?_)
  refine seg_bind_wrap (wpAny_standAt ?_)
  refine seg_bind_wrap (wpAny_holding (wpAny_mono h1 (fun it s2 h2 => ?_) fun _ _ z => z))
  exact seg_call h2
end
section
variable {prog : Program} {w : World} {A : Around} {R : GenEnd} {Y : Protocol} {n : Nat} {s₀ : Shared} {fs : List Frame} {s : Shared} {env : Env}
/-- what a loop's code does with an exception of its own -/
def noteX (env : Env) (e : Value) : Sem PySem.Fin := (do noteFrame e env; theTreesLotGoes e : Sem Unit).bind fun _ => .raise e
theorem seg_forLoop {target : Expr} {it : Value} {body orelse : List Stmt}
    (h : wpAny (model prog w) (A.over (.forLoop target it body orelse env) fs) (pyNext it) (fun r s1 => match r with
        | none => Seg (model prog w) A R Y n s₀ (.forLoop target it body orelse env) (.pure (.again (.block orelse env))) fs s1
        | some v => wpAny (model prog w) (A.over (.forLoop target it body orelse env) fs) (letOwnedTupleGo target it v) (fun _ s2 =>
            wpAny (model prog w) (A.over (.forLoop target it body orelse env) fs) (assign target env v) (fun _ s3 =>
              Seg (model prog w) A R Y n s₀ (.forLoop target it body orelse env) ((execs body env).wrap (fun f => ((match f with
                | .next | .cont => again (.forLoop target it body orelse env)
                | .brk => pure (.done .next)
                | .ret v => pure (.done (.ret v)) : Sem PySem.Fin)).wrap .pure (noteX env) id id) (noteX env) id id) fs s3)
              (fun x s' => Seg (model prog w) A R Y n s₀ (.forLoop target it body orelse env) (noteX env x) fs s') s2)
            (fun x s' => Seg (model prog w) A R Y n s₀ (.forLoop target it body orelse env) (noteX env x) fs s') s1)
      (fun x s' => Seg (model prog w) A R Y n s₀ (.forLoop target it body orelse env) (noteX env x) fs s') s) :
    Seg (model prog w) A R Y n s₀ (.forLoop target it body orelse env) ((model prog w).den (.forLoop target it body orelse env)) fs s := by
  show Seg _ A R Y n s₀ _ ((forTurn target it body orelse env).onRaise (fun x => do noteFrame x env; theTreesLotGoes x)) fs s
  rw [Sem.onRaise_eq_wrap]
  show Seg _ A R Y n s₀ _ ((forTurn target it body orelse env).wrap .pure (noteX env) id id) fs s
  unfold forTurn
  refine seg_bind_wrap (wpAny_standAt ?_)
  refine seg_bind_wrap (wpAny_onRaise (wpAny_mono h (fun r s1 h1 => ?_) fun _ _ z => wpAny_standAt z))
  cases r with
  | none => exact h1
  | some v =>
    refine seg_bind_wrap (wpAny_mono h1 (fun _ s2 h2 => ?_) fun _ _ z => z)
    refine seg_bind_wrap (wpAny_mono h2 (fun _ s3 h3 => ?_) fun _ _ z => z)
    rw [Sem.bind_eq_wrap', Sem.wrap_wrap]
    exact h3
end
section
variable {X : Cx} {st : Stmt} {rest : List Stmt} {pos : Pos}
theorem gss_one {t : TGn} (a : GS X st t) : GSs X [st] (tGThen t tG0) := gss_cons a gss_nil
def tGIf (c : TT) (t u : TGn) : TGn := fun D ys σ H => c σ H fun b H1 => if b = true then t D ys σ H1 else u D ys σ H1
theorem gs_if {c : Expr} {a b : List Stmt} {tc : TT} {t u : TGn} (hc : PT X c tc) (ha : GSs X a t) (hb : GSs X b u) : GS X (.If c a b pos) (tGIf tc t u) := by
  refine ⟨fun A S ip R n ys s₀ c' fs K J gd lv s σ H D g hn k hI ht => ?_⟩
  obtain ⟨acc, cc, r, I⟩ := hI
  refine seg_iff_stmt ?_
  rw [g.over]
  refine wpAny_mono (hc.run _ s σ H _ I ht) (fun d s1 q => ?_) fun x s' hx => k.exc n s₀ x s' hx
  obtain ⟨H1, I1, q1⟩ := q
  cases d with
  | true => exact ha.run A S ip R n ys s₀ c' fs K J gd lv s1 σ H1 D g hn k ⟨acc, cc, r, I1⟩ q1
  | false => exact hb.run A S ip R n ys s₀ c' fs K J gd lv s1 σ H1 D g hn k ⟨acc, cc, r, I1⟩ q1
/-- W: the invariant by the turn, a measure, what is out so far -/
def tGFor (wi : TI) (g : TG) (tb : TGn) : TGn := fun D ys σ H => wi σ H fun J H1 => ∃ W : Nat → Nat → List V → L2.St → Hp → Prop, (∃ m, W 0 m ys σ H1) ∧ ∀ i m ys σ H, W i m ys σ H →
  (J.stop i H ∧ D.nx ys σ H) ∨ (J.go i H ∧ ∃ N : List V → L2.St → Hp → Prop, (∀ ys' σ' H', N ys' σ' H' → ∃ m', m' < m ∧ W (i + 1) m' ys' σ' H') ∧ ∀ x H', J.yld i H x H' → g x σ H' fun σ2 H2 => tb { D with nx := N, ct := N, bk := D.nx } ys σ2 H2)
theorem gs_for {tg iter : Expr} {body : List Stmt} {wi : TI} {gg : TG} {tb : TGn} (hp : PassesOwn (model X.prog X.w) X.A X.env X.xe) (hc : X.calm = true) (hi : PI X tg iter wi) (hg : PG X tg gg) (hb : GSs X body tb)
    (hs : ∀ x, foldedSetIterable iter X.env x = pure x := by intro _; rfl) : GS X (.For tg iter body [] pos) (tGFor wi gg tb) := by
  refine ⟨fun A S ip R n ys s₀ c fs K J gd lv s σ H D g hn k hI ht => ?_⟩
  obtain ⟨acc0, cc0, r0, I0⟩ := hI
  refine seg_For ?_ hs
  rw [g.over]
  refine wpAny_mono (hi.run _ s σ H _ I0 ht) (fun v s1 h1 => wpAny_mono h1 (fun itv s2 h2 p => ?_) fun x s' hx => k.exc n s₀ x s' hx) fun x s' hx => k.exc n s₀ x s' hx
  obtain ⟨it, fp, tn, Jt, H2, rfl, I2, T, st2, f2, W, ⟨m0, w0⟩, turn⟩ := h2
  have stat : ∀ {H' : Hp} {acc : Array Value} {cc : Nat}, (∀ b ∈ fp, H' b = none) → ∀ b ∈ fp, FpOk X ((S, lstObj acc cc) :: ip) H' b := fun {H' acc cc} hn b hb => by
    obtain ⟨_, f1, f3, f4, f5, f6⟩ := f2 b hb
    refine ⟨hn b hb, f1, f3, f4, f5, fun p hp => ?_⟩
    rcases List.mem_append.mp hp with z | z
    · exact f6 p (List.mem_append_left _ z)
    · rcases List.mem_cons.mp z with z | z
      · rw [z]
        exact f6 (S, lstObj acc0 cc0) (List.mem_append_right _ List.mem_cons_self)
      · exact f6 p (List.mem_append_right _ (List.mem_cons_of_mem _ z))
  have gl := fun (kk : Result → Sem PySem.Fin) => gc_loop (k := kk) (c' := .forLoop tg (.ref it) body [] X.env) (l := lv []) (kp := []) (p := p) g rfl rfl
  have gb := fun (kk : Result → Sem PySem.Fin) => gc_loop (k := kk) (c' := .block [] X.env) (l := lv []) (kp := []) (p := p) g rfl rfl
  have loop : ∀ (m i n : Nat) (ys : List V) (s₀ s : Shared) (σ : L2.St) (H : Hp), n + ys.length = sizeLine → W i m ys σ H → GI X S ip ys σ H s → tn i s.heap → (∀ b ∈ fp, H b = none) →
      Seg (model X.prog X.w) A R (GY X S) n s₀ (.forLoop tg (.ref it) body [] X.env) ((model X.prog X.w).den (.forLoop tg (.ref it) body [] X.env))
        (.ret (fun r => ((match r with | .ok f => (.pure f : Sem Flow) | .error e => .raise e).onRaise (cameBack X.env)).wrap K J gd lv) none (gd false) (lv []) c p [] :: fs) s := by
    intro m
    induction m using Nat.strongRecOn with
    | ind m ih =>
      intro i n ys s₀ s σ H hn w hI hst hfr
      have ee : ∀ (n : Nat) (s₀ : Shared) (x : Value) (s' : Shared), X.xe x s' → Seg (model X.prog X.w) A R (GY X S) n s₀ (.forLoop tg (.ref it) body [] X.env) (noteX X.env x)
          (.ret (fun r => ((match r with | .ok f => (.pure f : Sem Flow) | .error e => .raise e).onRaise (cameBack X.env)).wrap K J gd lv) none (gd false) (lv []) c p [] :: fs) s' := fun n s₀ x s' hx => by
        unfold noteX
        rw [Sem.bind_eq_wrap]
        refine seg_wrap ?_
        rw [(gl _).over]
        refine wpAny_bind (wpAny_mono (hp x s' hx) (fun _ s'' hcb => wpAny_theTreesLotGoes ?_) fun y s'' hcb => ?_)
        · exact seg_leaf (.error x) (seg_cameBack g k hcb)
        · exact seg_leaf (.error y) (seg_cameBack g k hcb)
      obtain ⟨acc, cc, r, I⟩ := hI
      refine seg_forLoop ?_
      rw [(gl _).over]
      rcases turn i m ys σ H w with ⟨stop, qn⟩ | ⟨go, N, hN, step⟩
      · refine wpAny_mono (T.done X rfl rfl rfl hc i _ s σ H X.xe I (stat hfr) hst stop) (fun r s4 q => ?_) fun x s' hx => ee n s₀ x s' hx
        obtain ⟨hr, I4⟩ := q
        subst hr
        refine seg_again rfl ?_
        exact seg_leaf (.ok .next) (k.ok n ys s₀ s4 .next hn ⟨σ, H, ⟨acc, cc, ‹_›, I4⟩, qn⟩)
      · refine wpAny_mono (T.item X rfl rfl rfl hc i _ s σ H X.xe I (stat hfr) hst go) (fun r s4 q => ?_) fun x s' hx => ee n s₀ x s' hx
        obtain ⟨u, hr, h4⟩ := q
        subst hr
        refine wpAny_mono h4 (fun _ s5 q5 => ?_) fun x s' hx => ee n s₀ x s' hx
        obtain ⟨x, H5, I5, r5, y5, st5, fr5⟩ := q5
        have I5' := I5.pinned (stat fr5) (T.obj _ _ st5)
        refine wpAny_mono (hg.run _ s5 σ H5 x u _ I5' r5 (step x H5 y5)) (fun _ s6 q6 => ?_) fun x s' hx => ee n s₀ x s' hx
        obtain ⟨σ6, H6, I6, q6⟩ := q6
        have g2 : ∀ kk, GC X S (ip ++ pinsAt fp s5.heap) A (.forLoop tg (.ref it) body [] X.env) (.ret kk none (gd false) (lv []) c p [] :: fs) id := fun kk =>
          ⟨(gl kk).pn, fun q hq => (List.mem_append.mp hq).elim (fun z => g.ip q z) fun z => fun e => (f2 q.1 (of_pinsAt z).1).2.2.2.2.2 (S, lstObj acc0 cc0) (List.mem_append_right _ List.mem_cons_self) e.symm, (gl kk).apart, (gl kk).over, (gl kk).split, (gl kk).guard, (gl kk).gd⟩
        have back : ∀ {ys' : List V} {σ7 : L2.St} {H7 : Hp} {s7 : Shared}, GI X S (ip ++ pinsAt fp s5.heap) ys' σ7 H7 s7 → GI X S ip ys' σ7 H7 s7 := fun {ys' σ7 H7 s7} h => by
          obtain ⟨acc7, cc7, r7, I7⟩ := h
          exact ⟨acc7, cc7, r7, Inv.unpinned (pins := (S, lstObj acc7 cc7) :: ip) I7⟩
        have still : ∀ {ys' : List V} {σ7 : L2.St} {H7 : Hp} {s7 : Shared}, GI X S (ip ++ pinsAt fp s5.heap) ys' σ7 H7 s7 → tn (i + 1) s7.heap ∧ ∀ b ∈ fp, H7 b = none := fun {ys' σ7 H7 s7} h => by
          obtain ⟨acc7, cc7, r7, I7⟩ := h
          refine ⟨T.keep _ _ _ st5 fun b hb o e => (I7.pin (b, o) (List.mem_append_right _ (List.mem_cons_of_mem _ (List.mem_append_right _ (mem_pinsAt hb e))))).1, fun b hb => ?_⟩
          obtain ⟨o, e, d⟩ := T.obj _ _ st5 b hb
          exact (I7.pin (b, o) (List.mem_append_right _ (List.mem_cons_of_mem _ (List.mem_append_right _ (mem_pinsAt hb e))))).2.1
        refine hb.run A S (ip ++ pinsAt fp s5.heap) R n ys s₀ _ _ _ _ id id s6 σ6 H6 { D with nx := N, ct := N, bk := D.nx } (g2 _) hn ⟨fun n' ys' s₀' s7 f hn' hs => ?_, fun n' s₀' x s3 hx => ee n' s₀' x s3 hx⟩ ⟨acc, cc, ‹_›, I6⟩ q6
        cases f with
        | next =>
          obtain ⟨σ7, H7, I7, n7⟩ := hs
          obtain ⟨m', hm, w7⟩ := hN ys' σ7 H7 n7
          obtain ⟨t7, f7⟩ := still I7
          exact seg_again rfl (ih m' hm (i + 1) n' ys' s₀' s7 σ7 H7 hn' w7 (back I7) t7 f7)
        | cont =>
          obtain ⟨σ7, H7, I7, n7⟩ := hs
          obtain ⟨m', hm, w7⟩ := hN ys' σ7 H7 n7
          obtain ⟨t7, f7⟩ := still I7
          exact seg_again rfl (ih m' hm (i + 1) n' ys' s₀' s7 σ7 H7 hn' w7 (back I7) t7 f7)
        | brk =>
          obtain ⟨σ7, H7, I7, q7⟩ := hs
          exact seg_leaf (.ok .next) (k.ok n' ys' s₀' s7 .next hn' ⟨σ7, H7, back I7, q7⟩)
        | ret v =>
          obtain ⟨x7, σ7, H7, I7, r7, q7⟩ := hs
          exact seg_leaf (.ok (.ret v)) (k.ok n' ys' s₀' s7 (.ret v) hn' ⟨x7, σ7, H7, back I7, r7, q7⟩)
  exact loop m0 0 n ys s₀ s2 σ H2 hn w0 ⟨acc0, cc0, r0, I2⟩ st2 fun b hb => (f2 b hb).1
/-- a for over a walk: Pv by the turn, what is out, the slots and the heap -/
theorem gfor_it {J : It} {n : Nat} {G : Hp → Prop} {Y : Nat → Hp → V → Hp → Prop} (w : Walk J n G Y) {g : TG} {tb : TGn} {D : GEnds} {ys : List V} {σ : L2.St} {H : Hp} (Pv : Nat → List V → L2.St → Hp → Prop) (h0 : Pv 0 ys σ H) (hG : ∀ i ys σ H, i ≤ n → Pv i ys σ H → G H)
    (hs : ∀ i x ys σ H H', i < n → Pv i ys σ H → Y i H x H' → g x σ H' fun σ2 H2 => tb { D with nx := Pv (i + 1), ct := Pv (i + 1), bk := D.nx } ys σ2 H2) (hd : ∀ ys σ H, Pv n ys σ H → D.nx ys σ H) :
    ∃ W : Nat → Nat → List V → L2.St → Hp → Prop, (∃ m, W 0 m ys σ H) ∧ ∀ i m ys σ H, W i m ys σ H →
      (J.stop i H ∧ D.nx ys σ H) ∨ (J.go i H ∧ ∃ N : List V → L2.St → Hp → Prop, (∀ ys' σ' H', N ys' σ' H' → ∃ m', m' < m ∧ W (i + 1) m' ys' σ' H') ∧ ∀ x H', J.yld i H x H' → g x σ H' fun σ2 H2 => tb { D with nx := N, ct := N, bk := D.nx } ys σ2 H2) := by
  refine ⟨fun i m ys σ H => m = n - i ∧ i ≤ n ∧ Pv i ys σ H, ⟨n, by simp, Nat.zero_le _, h0⟩, ?_⟩
  rintro i m ys σ H ⟨rfl, hi, p⟩
  have q := hG i ys σ H hi p
  by_cases hlt : i < n
  · exact .inr ⟨w.goes i H hlt q, Pv (i + 1), fun ys' σ' H' p' => ⟨n - (i + 1), by omega, rfl, hlt, p'⟩, fun x H' y => hs i x ys σ H H' hlt p (w.yields i H x H' hlt q y)⟩
  · have e : i = n := by omega
    subst e
    exact .inl ⟨w.stops H q, hd ys σ H p⟩
end
end Rz
namespace Rz
open PySem PySem.Spec PyProof.Rows L2 GenW
/-- a generator def by its body -/
theorem gfn_by {P : Program} {w : World} {K : PySem.W.Frag} {mg : Str → Option Value} {base : Heap} {k : Nat} {x qual : Str} {st : Stmt} {f : Addr} {fd : FuncData} {N ps : List Str} {sp : SpG} (F : Fun K x qual st f fd) (S : GScope N ps (defScope st)) (len : ∀ vs H Q E, sp vs H Q E → vs.length = ps.length)
    (hbody : ∀ (cdv : Value) (A : Around) (outer : List Env) (s : Shared) (H : Hp) (vs : List V) (Q : List V → Hp → Prop) (E : XK) (pn : List (Addr × Obj)), Room k (A.deeper (envOfC qual (defScope st) s.heap.objs.size f cdv)) → sp vs H Q E →
      ∃ t, GSs (gcxOf P w K mg base N qual (defScope st) f cdv A outer s H E pn) (defBody st) t ∧ t { nx := fun ys _ H' => Q ys H', rt := fun ys v H' => v = .non ∧ Q ys H' } [] (start N vs) H) : GFn P w K mg base (k + 1) f fd ps sp := by
  obtain ⟨oc, od, kV, doc, pm, an, cdv, ct, osl, rfl, lk, hcd⟩ := F.ex
  exact gfn_of lk hcd S len fun A outer s H vs Q E pn hr hsp => hbody cdv A outer s H vs Q E pn hr hsp
end Rz

namespace Rz
open PySem PySem.Spec PyProof.Rows L2
/-! ### o.replace(c[i], d[j]): the two signs are new texts, one younger than the other -/
def PETk (X : Cx) (m : Nat) (e : Expr) (te : TE) : Prop := ∀ (pins : List (Addr × Obj)) (s : Shared) (σ : L2.St) (H : Hp) (Q : VK), Inv X pins σ H s → te σ H Q →
  wpAny (model X.prog X.w) X.A (eval e X.env) (fun u s' => ∃ (z : Str) (t : Tok) (H' : Hp), u = .str z t ∧ s.toks + m ≤ t ∧ t < s'.toks ∧ Inv X pins σ H' s' ∧ Q (.str z) H') X.xe s
section
variable {X : Cx} {a b o e1 e2 : Expr} {ta tb to t1 t2 : TE} {cst : Str} {j : Nat} {pos apos p p' : Pos}
theorem tail_tok {value slice : Expr} {pins : List (Addr × Obj)} {s s2 : Shared} {σ : L2.St} {H : Hp} {x y : V} {v u : Value} {Q : VK} {m : Nat} (I : Inv X pins σ H s2) (rx : RelV x v) (ry : RelV y u) (h : rIxS x y H Q) (k : s.toks + m ≤ s2.toks)
    (hs : subscripted slice false v u = operate [v, u] (getItem v u)) : wpAny (model X.prog X.w) X.A (subscriptTail value slice v u) (fun u s' => ∃ (z : Str) (t : Tok) (H' : Hp), u = .str z t ∧ s.toks + m ≤ t ∧ t < s'.toks ∧ Inv X pins σ H' s' ∧ Q (.str z) H') X.xe s2 := by
  obtain ⟨z, i, c, rfl, rfl, hz, he, q⟩ := h
  obtain ⟨t, rfl⟩ := rx
  obtain ⟨t', rfl⟩ := ry
  obtain ⟨j, h1, h2, h3, h4, h5⟩ := atI_get he
  have hl : z.cps.toList.length = z.length := by simp [Str.length]
  rw [hl] at h1 h4 h5
  have hn := line63
  exact tail_any (typeIs_str s2 z t) slot_str_getitem.lookup (getItem_str (c := c) (by
    have e1 : decide (i < -(2 ^ 63 : Int)) = false := decide_eq_false (by omega)
    have e2 : decide (i ≥ 2 ^ 63) = false := decide_eq_false (by omega)
    rw [e1, e2, Bool.or_false]) (by rw [h1]; simpa using h2) ⟨⟨#[c]⟩, s2.toks, H, rfl, k, Nat.lt_succ_self _, I.tok _, q⟩) hs
theorem pk_ix (ha : PE X a ta) (hb : PE X b tb) (hs : PlainIx b) : PETk X 0 (.Subscript a b pos) (tOp rIxS ta tb) := by
  intro pins s σ H Q I h
  refine Subscript_ (PySem.wpAny_with_toks (Nat.le_refl s.toks) (wpAny_mono (ha.run pins s σ H _ I h) (fun v s1 q1 k1 => ?_) fun _ _ x _ => x))
  obtain ⟨x, H1, I1, r1, q1⟩ := q1
  refine PySem.wpAny_with_toks k1 (wpAny_mono (hb.run pins s1 σ H1 _ I1 q1) (fun u s2 q2 k2 => ?_) fun _ _ x _ => x)
  obtain ⟨y, H2, I2, r2, q2⟩ := q2
  exact tail_tok I2 r1 r2 q2 k2 (hs _ _)
theorem pk_ixc (hb : PE X b tb) (hs : PlainIx b) : PETk X 1 (.Subscript (.Constant (.str cst) j p) b pos) (tOp rIxS (tC (.str cst)) tb) := by
  intro pins s σ H Q I h
  refine Subscript_ (Calls.Constant_str ?_)
  have I1 : Inv X pins σ H { s with toks := s.toks + 1 } := I.tok (s.toks + 1)
  refine PySem.wpAny_with_toks (n := s.toks + 1) (Nat.le_refl _) (wpAny_mono (hb.run pins _ σ H _ I1 h) (fun u s2 q2 k2 => ?_) fun _ _ x _ => x)
  obtain ⟨y, H2, I2, r2, q2⟩ := q2
  exact tail_tok I2 (show RelV (.str cst) (.str cst s.toks) from ⟨s.toks, rfl⟩) r2 q2 k2 (hs _ _)
def tRep2 (to t1 t2 : TE) : TE := fun σ H Q => to σ H fun x H1 => ∃ a, x = .str a ∧ t1 σ H1 fun y H2 => t2 σ H2 fun z H3 => ∃ b c, y = .str b ∧ z = .str c ∧ (b == c) = false ∧ a.length + (a.length + 1) * c.length ≤ 16777216 ∧ Q (.str (Txt.replace a b c)) H3
theorem pe_rep2 (ho : PE X o to) (hc : PETk X 1 e1 t1) (hd : PETk X 0 e2 t2) (hst : starEach [e1, e2] X.env = [(false, eval e1 X.env), (false, eval e2 X.env)] := by rfl)
    (hbase : attributeBase o "replace" X.env (eval o X.env) = eval o X.env := by rfl) (hline : (apos.endLine == pos.line) = true := by rfl) :
    PE X (.Call (.Attribute o "replace" apos) [e1, e2] [] pos) (tRep2 to t1 t2) := by
  refine ⟨fun pins s σ H Q I h => ?_⟩
  refine PySem.Call_method2 hbase hst hline (thn (ho.run pins s σ H _ I h) fun v s1 ⟨x, H1, I1, r1, a, ea, q⟩ => ?_)
  subst ea
  obtain ⟨tx, rfl⟩ := r1
  refine ⟨"str", _, PySem.F.plainAttrs_str, PySem.F.slot_str_replace, PySem.F.type_str_replace, typeIs_str _ _ _, (fun _ e => nomatch e), Calls.callWith_builtin rfl (Calls.evalArgs_plain (Calls.spliced_cons ?_))⟩
  refine thn (hc pins s1 σ H1 _ I1 q) fun u s2 h2 => ?_
  obtain ⟨z, t, H2, eu, k1, k2, I2, q2⟩ := h2
  subst eu
  refine Calls.spliced_cons (thn (hd pins s2 σ H2 _ I2 q2) fun u' s3 h3 => ?_)
  obtain ⟨z', t', H3, eu', k3, k4, I3, q3⟩ := h3
  subst eu'
  refine Calls.spliced_nil ?_
  obtain ⟨b, c, e1, e2, hyz, hb, q⟩ := q3
  cases e1
  cases e2
  have n1 : t ≠ 0 := fun z => by rw [z] at k1; exact absurd k1 (Nat.not_succ_le_zero _)
  have l3 : t < t' := Nat.lt_of_lt_of_le k2 k3
  have n2 : t' ≠ 0 := fun z => by rw [z] at l3; exact absurd l3 (Nat.not_lt_zero _)
  have n3 : t ≠ t' := Nat.ne_of_lt l3
  exact PySem.SC.replace n1 n2 n3 hyz hb fun t' k => ⟨.str _, H3, I3.tok k, ⟨t', rfl⟩, q⟩
end
/-- one sign for one sign -/
theorem repl_one (d c : Nat) : ∀ l : List Nat, StrLaws.replL [d] [c] l = l.map fun e => if e = d then c else e
  | [] => StrLaws.replL_nil
  | e :: r => by
    by_cases h : e = d
    · subst h
      rw [StrLaws.replL_hit (by simp) (by simp), List.map_cons, if_pos rfl]
      show [c] ++ StrLaws.replL [e] [c] r = _
      rw [repl_one e c r]
      rfl
    · rw [StrLaws.replL_miss (by simpa using h), List.map_cons, if_neg h, repl_one d c r]
def mapT (f : Nat → Nat) (x : Str) : Str := ⟨(x.cps.toList.map f).toArray⟩
theorem mapT_list (f : Nat → Nat) (x : Str) : (mapT f x).cps.toList = x.cps.toList.map f := by
  unfold mapT
  rfl
theorem str_ext {x y : Str} (h : x.cps.toList = y.cps.toList) : x = y := by
  have d := Array.toList_inj.mp h
  cases x
  cases y
  exact congrArg Str.mk d
theorem replace_map (x : Str) (d c : Nat) : Txt.replace x ⟨#[d]⟩ ⟨#[c]⟩ = mapT (fun e => if e = d then c else e) x := by
  refine str_ext ?_
  rw [mapT_list, StrLaws.replace_list (by show 1 ≤ 1; exact Nat.le_refl 1)]
  exact repl_one d c _
end Rz

namespace Rz
open PySem PySem.Spec PyProof.Rows L2
/-! ### enumerate(tuple) -/
theorem enu_new {v : Value} {ob : Obj} {G : Heap → Prop} (B : Begins v ob G) : Meets (Builtin.«enumerate.__new__» ⟨[.type "enumerate", v], []⟩) (fun _ R s => G s.heap ∧
    R (.ok (.ret (.ref (s.heap.push ob).objs.size))) { s with heap := (s.heap.push ob).push { cls := .type "enumerate", data := .fields #[.none, .bool false, .ref s.heap.objs.size, rawInt 0, .none, .none] } }) :=
  .of_wp fun prog w A R s h => by
    obtain ⟨hp, gens, dr, tk, os⟩ := s
    obtain ⟨hG, h⟩ := h
    have hsub := sub_enumerate
    have qq : ∀ {A2 : Around} {E2 Q2 : Value → Shared → Prop}, Q2 (.ref hp.objs.size) ⟨hp.push ob, gens, dr, tk, os⟩ → wpAny (model prog w) A2 (pyIter v) Q2 E2 ⟨hp, gens, dr, tk, os⟩ := fun z => B.iter prog w _ _ ⟨hp, gens, dr, tk, os⟩ _ hG z
    wp_walk using qq
    refine wpAny_stack_any fun stk => ?_
    refine wpAny_pure ?_
    split
    · rename_i cc _ _ _ _ _
      cases (cc == Value.type "enumerate")
      case' false => wp_walk using qq
      case' true => wp_walk using qq
      all_goals exact ⟨_, rfl, h⟩
    · wp_walk using qq
      exact ⟨_, rfl, h⟩
section
variable {prog : Program} {w : World} {A : Around} {E : Value → Shared → Prop} {s : Shared}
theorem enu_begins {v : Value} {ob : Obj} {G : Heap → Prop} {Q : Value → Shared → Prop} (B : Begins v ob G) (hG : G s.heap)
    (h : ∀ h2, IsEnum h2 (s.heap.objs.size + 1) s.heap.objs.size 0 .none → h2.get? s.heap.objs.size = some ob → (∀ b o, s.heap.get? b = some o → h2.get? b = some o) → Q (.ref (s.heap.objs.size + 1)) { s with heap := h2 }) :
    wpAny (model prog w) A (call (.type "enumerate") [v]) Q E s := by
  refine callType_new F.called_enumerate (by decide) (F.typeCall_enumerate_1 _) (F.newCall_enumerate_1 _) (fun x => F.args_object_init_2 x _) F.entry_enumerate_new (enu_new B) ⟨hG, ?_⟩
  have hsz : (s.heap.push ob).objs.size = s.heap.objs.size + 1 := Heap.size_push ..
  show _ ∧ _
  rw [hsz]
  have en : IsEnum ((s.heap.push ob).push { cls := .type "enumerate", data := .fields #[.none, .bool false, .ref s.heap.objs.size, rawInt 0, .none, .none] }) (s.heap.objs.size + 1) s.heap.objs.size 0 .none := by
    have z := Heap.get?_push_size (s.heap.push ob) (o := { cls := .type "enumerate", data := .fields #[.none, .bool false, .ref s.heap.objs.size, rawInt 0, .none, .none] }) rfl
    rw [hsz] at z
    exact z
  exact ⟨⟨_, en, rfl⟩, h _ en (Heap.get?_push_of_some _ (Heap.get?_push_size _ B.free)) fun b o x => Heap.get?_push_of_some _ (Heap.get?_push_of_some _ x)⟩
end
/-- the tuple at a, each item in a new pair with its number -/
def IteT (K : PySem.W.Frag) (a : Addr) : It :=
  ⟨fun i H => ∃ (xs : List V) (x : V), SqT K H a xs ∧ xs[i]? = some x, fun i H v H' => ∃ T x, v = .ref T ∧ H T = none ∧ H' = upd H T (.tup [.int (i : Nat), x]) ∧ ∀ xs, SqT K H a xs → xs[i]? = some x, fun i H => ∃ xs : List V, SqT K H a xs ∧ i = xs.length⟩
theorem tne_it {h : Heap} {a it : Addr} {items : Array Value} {i : Nat} (l : IsTup h a items) (t : h.IsTupleIter it a i) : a ≠ it := fun z => by
  obtain ⟨o1, h1, c1, _⟩ := l
  obtain ⟨o2, h2, c2, _⟩ := t
  rw [z, h2] at h1
  obtain rfl := Option.some.inj h1
  rw [c2] at c1
  exact absurd c1 (by decide)
theorem tne_en {h : Heap} {a e it : Addr} {items : Array Value} {c : Int} {old : Value} (l : IsTup h a items) (t : IsEnum h e it c old) : a ≠ e := fun z => by
  obtain ⟨o1, h1, c1, _⟩ := l
  have h2 : h.get? e = _ := t
  rw [z, h2] at h1
  obtain rfl := Option.some.inj h1
  exact absurd (show Value.type "enumerate" = Value.type "tuple" from c1) (by decide)
theorem turn_enumT {P : Program} {w : World} {K : PySem.W.Frag} {elts : List Expr} {kk : Nat} {tpos : Pos} (a e it : Addr) :
    Turn P w K (.Tuple elts kk tpos) (IteT K a) [e, it] e (fun i h => (∃ old, IsEnum h e it ((i : Nat) : Int) old) ∧ h.IsTupleIter it a i ∧ e ≠ it) where
  mem := by simp
  obj := fun i h st b hb => by
    obtain ⟨⟨old, he⟩, ⟨o, ho, hc, hd⟩, _⟩ := st
    rcases (show b = e ∨ b = it by simpa using hb) with rfl | rfl
    · exact ⟨_, he, fun v q => nomatch q⟩
    · exact ⟨o, ho, fun v q => by rw [hd] at q; cases q⟩
  keep := fun i h h' st k => let ⟨⟨old, he⟩, hi, hne⟩ := st; ⟨⟨old, k e (by simp) _ he⟩, hi.at fun o q => k it (by simp) o q, hne⟩
  item := by
    intro X hP hw hK hc i pins s σ H E I hf st hg
    subst hP hw hK
    obtain ⟨⟨old, he⟩, hit, hne⟩ := st
    obtain ⟨xs, x, hq, hx⟩ := hg
    obtain ⟨its, rv, p, hz⟩ := I.tuple hq
    obtain ⟨u, hu, ru⟩ := rv.get hx
    have le : e < s.heap.objs.size := Heap.lt_size he
    have li : it < s.heap.objs.size := by obtain ⟨_, q, _⟩ := hit; exact Heap.lt_size q
    have D := Draws.tuple (prog := X.prog) (w := X.w) (A := X.A.in1) (I.ok.hd hc) it a (tne_it p hit) its.toArray
    have lt : i < its.toArray.size := by
      have q := (List.getElem?_eq_some_iff.mp hu).1
      rw [List.size_toArray]
      exact q
    refine wpAny_pyNext_enum_itemC D he ⟨hit, p⟩ lt hne (by
      have q := tne_en p he
      simp [hne, Ne.symm q]) fun u1 h1 tk hu1 ho hit1 hT hsz hk => ?_
    obtain rfl : u1 = u := by
      rw [List.getElem?_toArray, hu] at hu1
      exact (Option.some.inj hu1).symm
    refine ⟨_, rfl, wpAny_letOwnedTupleGo_enum (s := { s with heap := h1, toks := tk + 1 }) ho fun h2 he2 sb => ?_⟩
    have at2 : h2.get? s.heap.objs.size = some { cls := .type "tuple", data := .seq #[.int (i : Nat) tk, u1] } := (sb.2 _ (Nat.ne_of_gt le)).trans hT
    have nw : ObjOk X.prog X.w (upd H s.heap.objs.size (.tup [.int (i : Nat), x])) h2 s.heap.objs.size (.tup [.int (i : Nat), x]) :=
      ⟨by show 2 ≤ sizeLine; decide, [.int (i : Nat) tk, u1], .cons ⟨_, rfl⟩ (.cons ru .nil), ⟨_, at2, rfl, _, rfl⟩⟩
    have J : Inv X pins σ (upd H s.heap.objs.size (.tup [.int (i : Nat), x])) { s with heap := h2, toks := tk + 1 } :=
      I.turnedNew (t' := tk + 1) (ch := [e, it]) (fun b ob hb q => (sb.2 b (fun z => hb (by simp [z]))).trans (hk b ob (fun z => hb (by simp [z])) (fun z => hb (by simp [z])) q)) hf (Nat.le_refl _) nw
    refine ⟨.ref s.heap.objs.size, _, J, rfl, ⟨_, x, rfl, I.hok.fresh (Nat.le_refl _), rfl, fun ys hy => by rw [I.tuple_inj hy hq]; exact hx⟩, ⟨⟨u1, ?_⟩, hit1.1.at fun o q => (sb.2 it (Ne.symm hne)).trans q, hne⟩, fun b hb => ?_⟩
    · have e1 : ((i + 1 : Nat) : Int) = (i : Int) + 1 := by omega
      rw [e1]
      exact he2
    · have lb : b < s.heap.objs.size := by
        rcases (show b = e ∨ b = it by simpa using hb) with rfl | rfl
        · exact le
        · exact li
      rw [upd_ne (Nat.ne_of_lt lb)]
      exact (hf b hb).1
  done := by
    intro X hP hw hK hc i pins s σ H E I hf st hg
    subst hP hw hK
    obtain ⟨⟨old, he⟩, hit, hne⟩ := st
    obtain ⟨xs, hq, hx⟩ := hg
    obtain ⟨its, rv, p, hz⟩ := I.tuple hq
    obtain ⟨f0, f1, f2, f3, f4, f5⟩ := hf it (by simp)
    have hl := rv.length
    have D := Draws.tuple (prog := X.prog) (w := X.w) (A := X.A.in1) (I.ok.hd hc) it a (tne_it p hit) its.toArray
    obtain rfl : i = its.toArray.size := by
      rw [List.size_toArray]
      omega
    exact wpAny_pyNext_enum_endD D he ⟨hit, p⟩ fun h' eb => ⟨rfl, I.turned (t' := s.toks) (fun b o hb q => eb b o hb q) f0 f1 f3 f4 f5⟩
  self := fun A i s Q E st h => let ⟨⟨_, he⟩, _⟩ := st; wpAny_pyIter_enum he h
def iEnumT (K : PySem.W.Frag) (ta : TA) : TI := fun σ H R => ta σ H fun vs H1 => ∃ a xs, vs = [.ref a] ∧ SqT K H1 a xs ∧ R (IteT K a) H1
theorem pi_enumT {X : Cx} {e : Expr} {ta : TA} {p pos tpos : Pos} {elts : List Expr} {kk : Nat} (hg : Gl X "enumerate") (hm : X.mg "enumerate" = none) (ha : PA X [e] ta) (hs : starEach [e] X.env = [(false, eval e X.env)] := by rfl) :
    PI X (.Tuple elts kk tpos) (.Call (.Name "enumerate" p) [e] [] pos) (iEnumT X.K ta) := by
  refine ⟨fun pins s σ H R I h => ?_⟩
  refine Call_ (ld_blt I hg hm boot_enumerate (PyProof.Rows.callWith_type1 (thn (ha.run pos pins s σ H _ I h) fun us s1 ⟨vs, H1, I1, r1, q1⟩ => ?_) hs rfl))
  obtain ⟨a, xs, rfl, hq, q⟩ := q1
  obtain ⟨u, rfl, ru⟩ := vals1 r1
  obtain rfl : u = Value.ref a := ru
  obtain ⟨its, rv, pl, hz⟩ := I1.tuple hq
  refine enu_begins (begins_tuple a its.toArray) pl fun h' he hit hk => wpAny_pyIter_enum he ?_
  have J : Inv X pins σ H1 { s1 with heap := h' } := I1.kept (t' := s1.toks) hk
  refine ⟨s1.heap.objs.size + 1, [s1.heap.objs.size + 1, s1.heap.objs.size], _, _, H1, rfl, J, turn_enumT a (s1.heap.objs.size + 1) s1.heap.objs.size, ⟨⟨.none, he⟩, ⟨_, hit, rfl, rfl⟩, Nat.succ_ne_self _⟩, fun b hb => ?_, q⟩
  have le : s1.heap.objs.size ≤ b := by
    rcases (show b = s1.heap.objs.size + 1 ∨ b = s1.heap.objs.size by simpa using hb) with z | z
    · rw [z]; exact Nat.le_add_right _ _
    · rw [z]; exact Nat.le_refl _
  exact I1.fpOk le (I1.hok.fresh le)
theorem walk_enumT {K : PySem.W.Frag} {a : Addr} {xs : List V} : Walk (IteT K a) xs.length (fun H => SqT K H a xs) (fun i H v H' => ∃ T x, v = .ref T ∧ H T = none ∧ H' = upd H T (.tup [.int (i : Nat), x]) ∧ xs[i]? = some x) :=
  ⟨fun i H hi h => ⟨xs, _, h, List.getElem?_eq_getElem hi⟩, fun H h => ⟨xs, h, rfl⟩, fun i H v H' _ h y => by
    obtain ⟨T, x, e1, e2, e3, e4⟩ := y
    exact ⟨T, x, e1, e2, e3, e4 xs h⟩⟩
end Rz

namespace Rz
open PySem PySem.Spec PyProof.Rows L2
/-! ### o.m(e, .., k = v) -/
section
variable {X : Cx} {CX : CXT} {k n : Nat} {f C : Addr} {fd : FuncData} {ps ks : List Str} {sp : Sp} {E : EX} {m : Str} {pos apos : Pos} {e o : Expr} {es : List Expr} {kws : List Keyword} {ta : TE} {t tk : TA} {gg : List Value → List Value → List Value} {gV : List V → List V → List V}
def tMtK (C : Addr) (m : Str) (n mm : Nat) (sp : Sp) (gV : List V → List V → List V) (E : EX) (ta : TE) (t tk : TA) : TE := fun σ H Q => ta σ H fun x H1 => ∃ a dx fs, x = .ref a ∧ H1 a = some (.ins C dx fs) ∧ fs.lookup m = none ∧
  t σ H1 fun vs H2 => tk σ H2 fun zs H3 => vs.length + 1 = n ∧ zs.length = mm ∧ sp (gV (V.ref a :: vs) zs) H3 Q (E σ)
theorem pe_mtK {pl : Sem Bool} (he : PE X o ta) (c : Cls X.K C) (hm : Meth X.K C m f) (F : FnOk X.prog X.w X.K X.mg X.base CX k f fd ps sp) (hr : Room k X.A) (hb : KBn X.K fd ps n ks gg gV) (hx : ∀ σ, PassesAt CX X σ (E σ)) (ha : PA X (e :: es) t) (hkw : PK X kws tk)
    (hall : (backToKw pos (keywordEach kws X.env)).all (·.1.isSome) = true := by rfl) (hks : (backToKw pos (keywordEach kws X.env)).filterMap (·.1) = ks := by rfl)
    (hst : starEach (e :: es) X.env = (false, eval e X.env) :: starEach es X.env := by rfl) (hpl : ((backTo pos (starEach (e :: es) X.env)).any (·.1) || (backToKw pos (keywordEach kws X.env)).any (·.1.isNone)) = false := by rfl)
    (ht : eval (.Call (.Attribute o m apos) (e :: es) kws pos) X.env = (do
      let ov ← eval o X.env
      standAt apos.atName
      let (f, first) ← holding [ov] (getMethod ov m pl)
      callWith pos f first (backTo pos (starEach (e :: es) X.env)) (backToKw pos (keywordEach kws X.env))) := by rfl) :
    PE X (.Call (.Attribute o m apos) (e :: es) kws pos) (tMtK C m n ks.length sp gV E ta t tk) := by
  refine ⟨fun pins s σ H Q I h => PySem.W.methodCall_KW (pl := pl) (thn (he.run pins s σ H _ I h) fun u s1 hh => ?_) ht⟩
  obtain ⟨x, H1, J, rx, a, dx, fs, rfl, ea, l, q⟩ := hh
  obtain rfl : u = Value.ref a := rx
  refine getmeth_ok J ea c hm l (PySem.W.callWith_KW (first := [.ref a]) (h₀ := X.base) I.ok.mod.kin hm.kp hall (thn (ha.run pos pins s1 σ H1 _ J q) fun us s2 ⟨vs, H2, I2, r, q2⟩ => thn (hkw.run pos pins s2 σ H2 _ I2 q2) fun ws s3 hh3 => ?_) hpl hst)
  obtain ⟨zs, H3, I3, rz, l1, l2, q3⟩ := hh3
  refine ⟨I3.kIn, ?_⟩
  rw [hks]
  have ra : Vals (V.ref a :: vs) (Value.ref a :: us) := .cons rfl r
  refine wpAny_call (codeAny_mono (F.run X.A X.stack s3 H3 ⟨.ref a :: us, ks.zip ws⟩ (gg (.ref a :: us) ws) (gV (.ref a :: vs) zs) Q (E σ) hr I3.env0 (hb.to s3 _ ws I3.kIn (by rw [List.length_cons, ← r.length]; exact l1) (rz.length.symm.trans l2)) (hb.rel ra rz) q3) fun q s' hq => ?_)
  match q, hq with
  | .error er, hq => exact hx σ pins H3 s3 er s' I3 hq
  | .ok (.ret u), hq => exact I3.after hq
  | .ok .next, hq => exact False.elim hq
  | .ok .brk, hq => exact False.elim hq
  | .ok .cont, hq => exact False.elim hq
end
/-- all keywords are written, no default is asked for -/
theorem kbF {K : PySem.W.Frag} {x qual : Str} {st : Stmt} {f : Addr} {fd : FuncData} {ps : List Str} (F : Fun K x qual st f fd) (n : Nat) (ks : List Str)
    (h : ∀ (kV doc pm : Value) (an : Option Addr) (cdv ct : Value) (us ws : List Value), us.length = n → ws.length = ks.length → bindArgs (PySem.W.fnOf x qual (defArgs st) (defBody st) (defScope st) .none kV doc pm an cdv ct) ⟨us, ks.zip ws⟩ = pure (ps.zip (us ++ ws))) :
    KBn K fd ps n ks (fun us ws => us ++ ws) (fun vs zs => vs ++ zs) := by
  obtain ⟨oc, od, kV, doc, pm, an, cdv, ct, osl, rfl, lk, hcd⟩ := F.ex
  exact ⟨fun s us ws X l1 l2 => BindsTo.of_looks fun M => PySem.W.Looks.of_pure (h kV doc pm an cdv ct us ws l1 l2), fun r1 r2 => r1.append r2⟩
theorem kbD {K : PySem.W.Frag} {x qual : Str} {params : Arguments} {body : List Stmt} {scope : Scope} {kws : List (Str × V)} {f : Addr} {fd : FuncData} {ps : List Str} (F : FunD K x qual params body scope [] kws f fd) (n : Nat) (ks : List Str)
    (h : ∀ (kV doc pm : Value) (an : Option Addr) (cdv ct : Value) (us ws : List Value), us.length = n → ws.length = ks.length → bindArgs (PySem.W.fnOf x qual params body scope .none kV doc pm an cdv ct) ⟨us, ks.zip ws⟩ = pure (ps.zip (us ++ ws))) :
    KBn K fd ps n ks (fun us ws => us ++ ws) (fun vs zs => vs ++ zs) := by
  obtain ⟨oc, od, dV, kV, doc, pm, an, cdv, ct, osl, rfl, lk, hcd, hD, hK⟩ := F.ex
  rcases hD with ⟨_, rfl⟩ | ⟨e, _⟩
  · exact ⟨fun s us ws X l1 l2 => BindsTo.of_looks fun M => PySem.W.Looks.of_pure (h kV doc pm an cdv ct us ws l1 l2), fun r1 r2 => r1.append r2⟩
  · exact absurd rfl e
end Rz

namespace Rz
open PySem PySem.Spec PyProof.Rows L2
/-! ### sets of objects that are known by a key (tuples of ints and texts) -/
/-- what such keys bear -/
structure KSet (P : Program) (w : World) (K : Type) [DecidableEq K] where
  kd : HeapKind P w K
  keep : ∀ {h h2 : Heap} {k : K} {b : Addr}, kd.is h k b → (∀ o, h.get? b = some o → h2.get? b = some o) → kd.is h2 k b
  noSet : ∀ {h : Heap} {k : K} {b : Addr} {o : Obj} {es : Array (Int × Value)} {ep : Nat} {t : SetTable}, kd.is h k b → h.get? b = some o → o.data ≠ .set es ep t
  cls : ∀ {A : Around} {E : Value → Shared → Prop} {s : Shared} {k : K} {b : Addr} {Q : Bool → Shared → Prop}, kd.is s.heap k b → Q false s → wpAny (model P w) A (ofAClassStatement 8 (.ref b)) Q E s
  byv : ∀ {A : Around} {E : Value → Shared → Prop} {s : Shared} {k : K} {b : Addr} {Q : Bool → Shared → Prop}, kd.is s.heap k b → (∀ v, Q v s) → wpAny (model P w) A (hashByValue 8 (.ref b)) Q E s
section
variable {P : Program} {w : World} {A : Around} {E : Value → Shared → Prop} {s : Shared} {K : Type} [DecidableEq K] {κ : KSet P w K}
def rws (κ : KSet P w K) (L : List (Addr × K)) : List (Int × Value) := L.map fun q => (κ.kd.hash q.2, Value.ref q.1)
def hss (κ : KSet P w K) (L : List (Addr × K)) : List Int := L.map fun q => κ.kd.hash q.2
/-- the set at a has the rows L -/
structure TsAt (κ : KSet P w K) (h : Heap) (a : Addr) (L : List (Addr × K)) (es : Array (Int × Value)) (ep : Nat) (t : SetTable) : Prop where
  obj : ∃ o, h.get? a = some o ∧ o.ExactSet ∧ o.data = .set es ep t
  lst : es.toList = rws κ L
  tab : TabOk t (hss κ L)
  nd : (L.map (·.2)).Nodup
  mem : ∀ q ∈ L, κ.kd.is h q.2 q.1
  led : w.params.followText "set-order" = true ∨ t.led = true
  room : L.length * 5 < t.mask * 3
  few : L.length < 64
variable {a : Addr} {L : List (Addr × K)} {es : Array (Int × Value)} {ep : Nat} {t : SetTable}
theorem rws_len (h : es.toList = rws κ L) : es.size = L.length := by
  have e := congrArg List.length h
  unfold rws at e
  rw [Array.length_toList, List.length_map] at e
  exact e
theorem TsAt.fit (Z : TsAt κ s.heap a L es ep t) : t.fits es.size = true := by
  have z1 := Z.tab.sz
  unfold hss at z1
  rw [List.length_map] at z1
  have z2 := rws_len Z.lst
  have z3 := Z.room
  unfold SetTable.fits SetTable.fill
  rw [Z.tab.dm, Bool.and_eq_true, beq_iff_eq, decide_eq_true_eq]
  show t.place.size = es.size ∧ t.place.size + 0 ≤ t.mask
  omega
theorem rws_at (h : es.toList = rws κ L) {i : Nat} {q : Addr × K} (e : L[i]? = some q) : es[i]? = some (κ.kd.hash q.2, Value.ref q.1) := by
  rw [← Array.getElem?_toList, h]
  unfold rws
  rw [List.getElem?_map, e]
  rfl
theorem ts_seen {k : K} {b : Addr} {Q : Bool → Shared → Prop} (hk : κ.kd.is s.heap k b) {ys : List Value} (hy : ∀ y ∈ ys, ∃ k2 c, y = Value.ref c ∧ κ.kd.is s.heap k2 c) (q : Q false s) : wpAny (model P w) A (searchCouldBeSeen (.ref b) ys) Q E s := by
  unfold searchCouldBeSeen
  refine wpAny_bind (wpAny_forIn_list _ (fun todo r s2 => r.1 = none ∧ s2 = s ∧ ∀ y ∈ todo, ∃ k2 c, y = Value.ref c ∧ κ.kd.is s.heap k2 c) _ ?_ ?_ _ _ ⟨rfl, rfl, hy⟩)
  · rintro v todo r s2 ⟨h1, rfl, h2⟩
    obtain ⟨k2, c, rfl, hc⟩ := h2 v List.mem_cons_self
    have h3 : ∀ y ∈ todo, ∃ k2 c, y = Value.ref c ∧ κ.kd.is s2.heap k2 c := fun u hu => h2 u (List.mem_cons_of_mem _ hu)
    dsimp only
    by_cases e : (b == c || (carriedByValue (.ref b) && carriedByValue (.ref c))) = true
    · exact wp_if_pos e (wpAny_pure ⟨rfl, rfl, h3⟩)
    · refine wp_if_neg e (wpAny_bind (κ.kd.quiet hk ?_))
      rw [if_neg (by decide)]
      refine wpAny_bind (κ.kd.quiet hc ?_)
      rw [if_neg (by decide)]
      refine wpAny_bind (κ.cls hk ?_)
      rw [if_neg (by decide)]
      refine wpAny_bind (κ.cls hc ?_)
      rw [if_neg (by decide)]
      exact wpAny_pure ⟨rfl, rfl, h3⟩
  · rintro ⟨r1, r2⟩ s2 ⟨h1, rfl, _⟩
    simp only at h1
    subst h1
    exact wpAny_pure q
/-- where the search for h stands after c steps -/
abbrev prb (m : Nat) (h : Int) (c : Nat) : SetTable.Probe := nth m (runAt m (SetTable.bits h % (m + 1)) (SetTable.bits h)) c
theorem prb_no (m : Nat) (h : Int) (c : Nat) : (prb m h c).dummy = none := by
  have go : ∀ (n : Nat) (p : SetTable.Probe), p.dummy = none → (nth m p n).dummy = none := by
    intro n
    induction n with
    | zero => exact fun p h => h
    | succ n ih =>
      intro p h
      refine ih (adv m p) ?_
      unfold adv
      split
      · exact h
      · exact h
  exact go c _ rfl
theorem ts_from (Z : TsAt κ s.heap a L es ep t) {x : Addr} {k : K} (hx : κ.kd.is s.heap k x) (hr : κ.kd.room A) {n : Nat} (n1 : n < 10 * SetTable.turns t.mask) (n2 : way t.mask (κ.kd.hash k) n ∉ t.place.toList)
    (n3 : ∀ c, c < n → way t.mask (κ.kd.hash k) c ∈ t.place.toList) {Q : SetFound → Shared → Prop} (yes : k ∈ L.map (·.2) → Q (.there none) s) (no : k ∉ L.map (·.2) → Q (.free (way t.mask (κ.kd.hash k) n) false) s) :
    ∀ (f c : Nat) (at_ : Option SetTable.Probe), at_.getD (t.probeStart (κ.kd.hash k)) = prb t.mask (κ.kd.hash k) c → c ≤ n → n - c < f →
      (∀ (i : Nat) q, L[i]? = some q → q.2 = k → ∃ d, c ≤ d ∧ d < n ∧ t.place.toList[i]? = some (way t.mask (κ.kd.hash k) d)) →
      wpAny (model P w) A (setSearchFrom a (.ref x) (κ.kd.hash k) true f at_) Q E s
  | 0, c, at_, _, _, hf, _ => absurd hf (Nat.not_lt_zero _)
  | f + 1, c, at_, hat, hc, hf, later => by
    obtain ⟨o, e1, e2, e3⟩ := Z.obj
    rw [setSearchFrom_succ]
    refine wpAny_bind (wpAny_setState_of e1 e3 Z.fit ?_)
    dsimp only
    refine wp_if_neg (by
      unfold SetTable.gaveWay
      rw [mask_odd Z.tab.mok]
      decide) ?_
    try refine wpAny_bind (wpAny_pure ?_)
    have shift : ∀ d, (nth t.mask (prb t.mask (κ.kd.hash k) c) d).j = way t.mask (κ.kd.hash k) (c + d) := fun d => congrArg SetTable.Probe.j (nth_add t.mask c _ d).symm
    have spec := go_spec t Z.tab.ris Z.tab.dm (fun i => (es[i]?.map (·.1)).getD 0) (κ.kd.hash k) (10 * SetTable.turns t.mask) (n - c) _ (prb_no t.mask (κ.kd.hash k) c) (by omega)
      (fun d hd => by rw [shift]; exact n3 (c + d) (by omega)) (by rw [shift, show c + (n - c) = n by omega]; exact n2)
    have hashes : ∀ (i : Nat) q, L[i]? = some q → (fun i => (es[i]?.map (·.1)).getD 0) i = κ.kd.hash q.2 := fun i q hq => by
      show (es[i]?.map (·.1)).getD 0 = _
      rw [rws_at Z.lst hq]
      rfl
    rcases spec with ⟨d, i, hd, hi, hh, fresh, hp⟩ | ⟨fresh, hp⟩
    · have met : t.probe (fun i => (es[i]?.map (·.1)).getD 0) (κ.kd.hash k) (at_.getD (t.probeStart (κ.kd.hash k))) = some (.candidate (way t.mask (κ.kd.hash k) (c + d)) i (prb t.mask (κ.kd.hash k) (c + (d + 1)))) := by
        rw [hat, ← shift, show prb t.mask (κ.kd.hash k) (c + (d + 1)) = nth t.mask (prb t.mask (κ.kd.hash k) c) (d + 1) from nth_add t.mask c _ (d + 1)]
        exact hp
      rw [met]
      dsimp only
      rw [shift] at hi
      have il : i < L.length := by
        have z1 := (List.getElem?_eq_some_iff.mp hi).1
        have z2 := Z.tab.sz
        unfold hss at z2
        rw [List.length_map] at z2
        rw [Array.length_toList] at z1
        omega
      have hq : L[i]? = some L[i] := List.getElem?_eq_getElem il
      generalize L[i] = q at hq
      have inL : q ∈ L := List.mem_of_getElem? hq
      have then_ : wpAny (model P w) A (searchRest a (.ref x) (κ.kd.hash k) true f es t (way t.mask (κ.kd.hash k) (c + d)) i (prb t.mask (κ.kd.hash k) (c + (d + 1)))) Q E s := by
        unfold searchRest
        rw [rws_at Z.lst hq]
        dsimp only
        refine wpAny_bind (wpAny_holding (κ.kd.eqBool hr (Z.mem q inL) hx ?_))
        refine wpAny_bind (wpAny_setState_of e1 e3 Z.fit ?_)
        dsimp only
        by_cases eq : q.2 = k
        · exact wp_if_pos (by simp [eq]) (wpAny_pure (yes (List.mem_map.mpr ⟨q, inL, eq⟩)))
        · refine wp_if_neg (by simp [eq]) ?_
          try refine wpAny_bind (wpAny_pure ?_)
          rw [sameMem]
          dsimp only
          have live : t.slot (way t.mask (κ.kd.hash k) (c + d)) = .live i := slot_live Z.tab.ris hi
          simp only [if_true, live, rws_at Z.lst hq]
          refine wpAny_bind (wpAny_isSame_ref_self (wpAny_bind (wpAny_pure ?_)))
          rw [if_pos rfl]
          refine wp_if_neg (by simp [eq]) ?_
          refine ts_from Z hx hr n1 n2 n3 yes no f (c + (d + 1)) _ rfl (by omega) (by omega) fun i0 q0 h0 hk0 => ?_
          obtain ⟨y, y1, y2, y3⟩ := later i0 q0 h0 hk0
          refine ⟨y, ?_, y2, y3⟩
          have hk1 : (fun i => (es[i]?.map (·.1)).getD 0) i0 = κ.kd.hash k := (hashes i0 q0 h0).trans (congrArg κ.kd.hash hk0)
          rcases Nat.lt_trichotomy y (c + d) with z | z | z
          · exact absurd hk1 (fresh (y - c) i0 (by omega) (by rw [shift, show c + (y - c) = y by omega]; exact y3))
          · rw [z] at y3
            have s0 := slot_live Z.tab.ris y3
            rw [live] at s0
            injection s0 with s0
            rw [← s0, hq] at h0
            exact absurd ((congrArg Prod.snd (Option.some.inj h0)).trans hk0) eq
          · omega
      by_cases ld : t.led = true
      · refine wp_if_neg (by simp [ld]) ?_
        try refine wpAny_bind (wpAny_pure ?_)
        exact then_
      · refine wp_if_pos (by simp [ld]) ?_
        refine wpAny_bind (ts_seen hx (fun y hy => ?_) ?_)
        · obtain ⟨u, hu, eu⟩ := List.mem_map.mp hy
          have u1 : u ∈ es ∧ u.1 = κ.kd.hash k := by simpa using hu
          have u2 : u ∈ es.toList := by simpa using u1.1
          rw [Z.lst] at u2
          obtain ⟨q2, hq2, e5⟩ := List.mem_map.mp u2
          exact ⟨q2.2, q2.1, by rw [← eu, ← e5], Z.mem q2 hq2⟩
        · refine wp_if_neg (by decide) ?_
          try refine wpAny_bind (wpAny_pure ?_)
          exact then_
    · have met : t.probe (fun i => (es[i]?.map (·.1)).getD 0) (κ.kd.hash k) (at_.getD (t.probeStart (κ.kd.hash k))) = some (.empty (way t.mask (κ.kd.hash k) n) none) := by
        have e5 : way t.mask (κ.kd.hash k) n = (nth t.mask (prb t.mask (κ.kd.hash k) c) (n - c)).j := by rw [shift, show c + (n - c) = n by omega]
        rw [hat, e5]
        exact hp
      rw [met]
      dsimp only
      refine wpAny_pure (no fun hm => ?_)
      obtain ⟨q0, h0, hk0⟩ := List.mem_map.mp hm
      obtain ⟨i0, hi0, e0⟩ := List.getElem_of_mem h0
      have h00 : L[i0]? = some q0 := by rw [List.getElem?_eq_getElem hi0, e0]
      obtain ⟨y, y1, y2, y3⟩ := later i0 q0 h00 hk0
      exact fresh (y - c) i0 (by omega) (by rw [shift, show c + (y - c) = y by omega]; exact y3) ((hashes i0 q0 h00).trans (congrArg κ.kd.hash hk0))
/-- the search as adding asks for it -/
theorem ts_search (Z : TsAt κ s.heap a L es ep t) {x : Addr} {k : K} (hx : κ.kd.is s.heap k x) (hr : κ.kd.room A) {Q : SetFound → Shared → Prop} (yes : k ∈ L.map (·.2) → Q (.there none) s)
    (no : ∀ n, k ∉ L.map (·.2) → way t.mask (κ.kd.hash k) n ∉ t.place.toList → (∀ c, c < n → way t.mask (κ.kd.hash k) c ∈ t.place.toList) → Q (.free (way t.mask (κ.kd.hash k) n) false) s) :
    wpAny (model P w) A (setSearch a (.ref x) (κ.kd.hash k) true) Q E s := by
  have z1 := Z.room
  obtain ⟨n, n1, n2, n3⟩ := Z.tab.first (by unfold hss; rw [List.length_map]; omega) (κ.kd.hash k)
  have few : n < 100000 := by
    have : 10 * SetTable.turns t.mask ≤ 1420 := by
      unfold SetTable.turns
      rcases Z.tab.mok with e | e | e <;> omega
    omega
  unfold setSearch
  refine ts_from Z hx hr n1 n2 n3 yes (fun h => no n h n2 n3) 100000 0 none rfl (Nat.zero_le _) (by omega) fun i q hq hk => ?_
  have h1 : (hss κ L)[i]? = some (κ.kd.hash k) := by
    unfold hss
    rw [List.getElem?_map, hq, ← hk]
    rfl
  have il : i < t.place.toList.length := by
    have y1 : i < L.length := (List.getElem?_eq_some_iff.mp hq).1
    have y2 := Z.tab.sz
    unfold hss at y2
    rw [List.length_map] at y2
    rw [Array.length_toList]
    omega
  have h2 := List.getElem?_eq_getElem il
  obtain ⟨c, hc, e⟩ := Z.tab.before n2 h1 h2
  exact ⟨c, Nat.zero_le _, hc, by rw [h2, e]⟩
/-- an item is not the set: it stays -/
theorem ts_stay {h h2 : Heap} {k : K} {b : Addr} {o : Obj} (hb : κ.kd.is h k b) (ho : h.get? a = some o) (hd : o.data = .set es ep t) (sb : Heap.SameBut a h h2) : κ.kd.is h2 k b :=
  κ.keep hb fun u e => (sb.2 b fun z => κ.noSet hb (by rw [z]; exact ho) hd).trans e
theorem filt_range {α : Type} (M : List α) : (List.range M.length).filterMap (fun i => M[i]?) = M := by
  have go : ∀ n, n ≤ M.length → (List.range n).filterMap (fun i => M[i]?) = M.take n := by
    intro n
    induction n with
    | zero => exact fun _ => rfl
    | succ n ih =>
      intro hn
      have lt : n < M.length := hn
      rw [List.range_succ, List.filterMap_append, ih (Nat.le_of_lt lt), List.take_add_one, List.filterMap_cons_some (List.getElem?_eq_getElem lt), List.getElem?_eq_getElem lt]
      rfl
  rw [go M.length (Nat.le_refl _), List.take_length]
theorem rws_order {order : Array Nat} (hl : es.toList = rws κ L) (hp : order.toList.Perm (List.range L.length)) :
    ∃ M, (order.filterMap (es[·]?)).toList = rws κ M ∧ M.Perm L ∧ hss κ M = order.toList.map fun i => (es.map (·.1)).getD i 0 := by
  have sz := rws_len hl
  have go : ∀ l : List Nat, (∀ i ∈ l, i < L.length) → l.filterMap (fun i => es[i]?) = rws κ (l.filterMap fun i => L[i]?) ∧ hss κ (l.filterMap fun i => L[i]?) = l.map fun i => (es.map (·.1)).getD i 0 := by
    intro l
    induction l with
    | nil => exact fun _ => ⟨rfl, rfl⟩
    | cons i l ih =>
      intro h
      have lt := h i List.mem_cons_self
      have at1 : L[i]? = some L[i] := List.getElem?_eq_getElem lt
      have at2 := rws_at hl at1
      obtain ⟨y1, y2⟩ := ih fun j hj => h j (List.mem_cons_of_mem _ hj)
      have at3 : (es.map (·.1)).getD i 0 = κ.kd.hash (L[i]).2 := by
        have e : (es.map (·.1))[i]? = some (κ.kd.hash (L[i]).2) := by
          rw [Array.getElem?_map, at2]
          rfl
        simp [Array.getD_eq_getD_getElem?, e]
      rw [List.filterMap_cons_some at1, List.filterMap_cons_some at2, y1, List.map_cons, at3, ← y2]
      exact ⟨rfl, rfl⟩
  obtain ⟨y1, y2⟩ := go order.toList fun i hi => List.mem_range.mp (hp.mem_iff.mp hi)
  refine ⟨_, by first | (rw [Array.toList_filterMap]; exact y1) | simpa using y1, ?_, y2⟩
  have pm := hp.filterMap (fun i => L[i]?)
  rw [filt_range] at pm
  exact pm
/-- the table laid anew, larger -/
theorem ts_relay {o : Obj} (ho : s.heap.get? a = some o) (hx : o.ExactSet) (hd : o.data = .set es ep t) (hl : es.toList = rws κ L) (h1 : t.place.size = es.size) (h2 : t.dummies = #[]) (h3 : es.size ≤ t.mask)
    (nd : (L.map (·.2)).Nodup) (mem : ∀ q ∈ L, κ.kd.is s.heap q.2 q.1) (led : w.params.followText "set-order" = true ∨ t.led = true) (few : L.length < 64) {want m : Nat}
    (m1 : SetTable.sizeAbove want - 1 = m) (m2 : MaskOk m) (m3 : SetTable.sizeAbove want ≤ 128) (m4 : L.length * 5 < m * 3) {Q : Unit → Shared → Prop}
    (q : ∀ g M us e2 u, Heap.SameBut a s.heap g → TsAt κ g a M us e2 u → M.Perm L → Q () { s with heap := g }) : wpAny (model P w) A (setRelay a want) Q E s := by
  have sz := rws_len hl
  have fit : t.fits es.size = true := by
    unfold SetTable.fits SetTable.fill
    rw [h2, Bool.and_eq_true, beq_iff_eq, decide_eq_true_eq]
    show t.place.size = es.size ∧ t.place.size + 0 ≤ t.mask
    omega
  obtain ⟨u, order, e1, hp, tab, e2, e3, e4, e5⟩ := relaid_ok t (hs := es.map (·.1)) (wanted := want) m1 m2 (by rw [Array.size_map, sz]; omega)
  rw [Array.size_map, sz] at hp
  obtain ⟨M, r1, r2, r3⟩ := rws_order hl hp
  rw [← r3] at tab
  have sz2 : (order.filterMap (es[·]?)).size = es.size := by rw [rws_len r1, r2.length_eq, sz]
  rw [setRelay_eq]
  refine wpAny_bind (wpAny_setState_of ho hd fit ?_)
  dsimp only
  refine wp_if_neg (by rw [sizeLine_eq]; omega) ?_
  try refine wpAny_bind (wpAny_pure ?_)
  rw [e1]
  dsimp only
  refine wpAny_bind (wp_if_neg (by rw [sz2]; simp) ?_)
  try refine wpAny_bind (wpAny_pure ?_)
  refine wpAny_pure ?_
  dsimp only
  refine wpAny_storeSet_of ho hd ?_ (by rw [sz2, sz, sizeLine_eq]; omega)
  have sb : Heap.SameBut a s.heap (s.heap.update a (Obj.putSet (order.filterMap (es[·]?)) u)) := Heap.SameBut.update ..
  exact q _ M _ (ep + 1) u sb ⟨⟨_, store_at ho hd, ⟨hx.1, hx.2.1, hx.2.2⟩, rfl⟩, r1, tab, (r2.map (·.2)).nodup_iff.mpr nd, fun y hy => ts_stay (mem y (r2.mem_iff.mp hy)) ho hd sb, by rw [e3]; exact led, by rw [r2.length_eq, e2]; exact m4, by rw [r2.length_eq]; exact few⟩ r2
theorem ite_pull {α β : Type} {c : Prop} [Decidable c] {m1 m2 : Sem α} {f : α → Sem β} : (if c then (m1 >>= f) else (m2 >>= f)) = ((if c then m1 else m2) >>= f) := by
  split <;> rfl
/-- one is added -/
theorem ts_add (Z : TsAt κ s.heap a L es ep t) {x : Addr} {k : K} (hx : κ.kd.is s.heap k x) (hr : κ.kd.room A) (few : L.length + 1 < 64) {Q : Bool → Shared → Prop}
    (q : ∀ b g M us e2 u, Heap.SameBut a s.heap g → TsAt κ g a M us e2 u → (k ∈ L.map (·.2) → M = L) → (k ∉ L.map (·.2) → M.Perm ((x, k) :: L)) → Q b { s with heap := g }) :
    wpAny (model P w) A (setAddHashed a (.ref x) (κ.kd.hash k)) Q E s := by
  obtain ⟨o, o1, o2, o3⟩ := Z.obj
  have sz := rws_len Z.lst
  have rm := Z.room
  unfold setAddHashed
  refine wpAny_holding ?_
  rw [show (100000 : Nat) = 99999 + 1 from rfl, setAddHashedIn_succ]
  refine wpAny_bind (wpAny_setState_of o1 o3 Z.fit ?_)
  dsimp only
  refine wp_if_neg (by simp [byScan, Value.scannable]) ?_
  try refine wpAny_bind (wpAny_pure ?_)
  refine wpAny_bind (ts_search Z hx hr (fun hm => ?_) fun n hm n2 n3 => ?_)
  · dsimp only
    exact wpAny_pure (q false s.heap L es ep t (Heap.SameBut.refl a s.heap) Z (fun _ => rfl) fun z => absurd hm z)
  dsimp only
  refine wpAny_bind (wpAny_setState_of o1 o3 Z.fit ?_)
  dsimp only
  obtain ⟨p1, p2, p3, p4, p5, p6, p7, p8, p9⟩ := Z.tab.put n2 n3
  generalize hput : t.put (way t.mask (κ.kd.hash k) n) = pr at p1 p3 p4 p5 p6 p7 p8 p9 ⊢
  obtain ⟨u0, c⟩ := pr
  dsimp only at p1 p3 p4 p5 p6 p7 p8 p9 ⊢
  subst p1
  rw [ite_pull]
  refine wpAny_bind (wpAny_mono (Q := fun _ s2 => s2 = s) ?_ (fun bv s2 e0 => ?_) fun _ _ z => z)
  · by_cases e : u0.plain = true
    · exact wp_if_pos e (κ.byv hx fun _ => rfl)
    · exact wp_if_neg e (wpAny_pure rfl)
  rw [e0]
  obtain ⟨u, hu2⟩ : ∃ u, u = (if bv = true then u0 else { u0 with plain := false }) := ⟨_, rfl⟩
  rw [← hu2]
  have q3 : TabOk u ((hss κ L).take (SetTable.below t.place (way t.mask (κ.kd.hash k) n)) ++ κ.kd.hash k :: (hss κ L).drop (SetTable.below t.place (way t.mask (κ.kd.hash k) n))) := by
    rw [hu2]
    cases bv
    · exact ⟨p3.ris, p3.dm, p3.sz, p3.mok, p3.bd, p3.reach⟩
    · exact p3
  have q4 : u.mask = t.mask := by
    rw [hu2]
    cases bv <;> exact p4
  have q5 : u.led = t.led := by
    rw [hu2]
    cases bv <;> exact p5
  have q9 : u.fill = (hss κ L).length + 1 := by
    rw [hu2]
    cases bv <;> exact p9
  clear p3 p4 p5 p6 p7 p8 p9 hu2
  have p3 := q3
  have p4 := q4
  have p5 := q5
  have p9 := q9
  clear q3 q4 q5 q9
  generalize hc : SetTable.below t.place (way t.mask (κ.kd.hash k) n) = c at p2 p3 ⊢
  have ins : (SetTable.insertAt es c (κ.kd.hash k, Value.ref x)).toList = rws κ (L.take c ++ (x, k) :: L.drop c) := by
    rw [SetTable.toList_insertAt, Z.lst]
    unfold rws
    rw [List.map_append, List.map_cons, List.map_take, List.map_drop]
  have pm := put_perm L c (x, k)
  have hs2 : hss κ (L.take c ++ (x, k) :: L.drop c) = (hss κ L).take c ++ κ.kd.hash k :: (hss κ L).drop c := by
    unfold hss
    rw [List.map_append, List.map_cons, List.map_take, List.map_drop]
  rw [← hs2] at p3
  generalize L.take c ++ (x, k) :: L.drop c = M at ins pm p3
  clear hs2
  have ml : M.length = L.length + 1 := pm.length_eq
  have nd2 : (M.map (·.2)).Nodup := (pm.map (·.2)).nodup_iff.mpr (by
    rw [List.map_cons]
    exact List.nodup_cons.mpr ⟨hm, Z.nd⟩)
  have sz2 := rws_len ins
  rw [ml] at sz2
  generalize SetTable.insertAt es c (κ.kd.hash k, Value.ref x) = us at ins sz2 ⊢
  refine wpAny_bind (wpAny_storeSet_of o1 o3 ?_ (by rw [sz2, sizeLine_eq]; omega))
  have sb : Heap.SameBut a s.heap (s.heap.update a (Obj.putSet us u)) := Heap.SameBut.update ..
  have o4 := store_at (es' := us) (t' := u) o1 o3
  generalize s.heap.update a (Obj.putSet us u) = g at sb o4 ⊢
  have mem2 : ∀ y ∈ M, κ.kd.is g y.2 y.1 := fun y hy => by
    rcases List.mem_cons.mp (pm.mem_iff.mp hy) with e | e
    · rw [e]
      exact ts_stay hx o1 o3 sb
    · exact ts_stay (Z.mem y e) o1 o3 sb
  have led2 : w.params.followText "set-order" = true ∨ u.led = true := by rw [p5]; exact Z.led
  have p10 : u.fill = L.length + 1 := by
    rw [p9]
    unfold hss
    rw [List.length_map]
  by_cases full : u.tooFull = true
  · first
      | (refine wpAny_bind ?_; refine wp_if_pos (by simp [full]) ?_)
      | (refine wp_if_pos (by simp [full]) ?_; refine wpAny_bind ?_)
    have much : (L.length + 1) * 5 ≥ u.mask * 3 := by
      unfold SetTable.tooFull at full
      rw [decide_eq_true_eq, p10] at full
      exact full
    rw [sz]
    have ps : u.place.size = us.size := by
      have e := p3.sz
      unfold hss at e
      rw [List.length_map, ml] at e
      rw [e, sz2]
    have which : (t.mask = 7 ∧ L.length = 4) ∨ (t.mask = 31 ∧ L.length = 18) := by
      rcases Z.tab.mok with e | e | e
      · exact .inl ⟨e, by rw [p4, e] at much; rw [e] at rm; omega⟩
      · exact .inr ⟨e, by rw [p4, e] at much; rw [e] at rm; omega⟩
      · rw [p4, e] at much
        omega
    have go : ∀ m, SetTable.sizeAbove (SetTable.grown (L.length + 1)) - 1 = m → MaskOk m → SetTable.sizeAbove (SetTable.grown (L.length + 1)) ≤ 128 → (L.length + 1) * 5 < m * 3 →
        wpAny (model P w) A (setRelay a (SetTable.grown (L.length + 1))) (fun _ s2 => wpAny (model P w) A (pure true) Q E s2) E { s with heap := g } := fun m y1 y2 y3 y4 => by
      refine ts_relay (s := { s with heap := g }) (L := M) o4 ⟨o2.1, o2.2.1, o2.2.2⟩ rfl ins ps p3.dm (by rw [sz2, p4]; rcases which with ⟨e, e2⟩ | ⟨e, e2⟩ <;> omega) nd2 mem2 led2 (by rw [ml]; exact few) y1 y2 y3 (by rw [ml]; exact y4) ?_
      intro g2 M2 vs e2 v sb2 Z2 pm2
      exact wpAny_pure (q true g2 M2 vs e2 v (sb.trans sb2) Z2 (fun z => absurd z hm) fun _ => pm2.trans pm)
    rcases which with ⟨_, e2⟩ | ⟨_, e2⟩
    · exact go 31 (by rw [e2, size_20]) (.inr (.inl rfl)) (by rw [e2, size_20]; decide) (by omega)
    · exact go 127 (by rw [e2, size_76]) (.inr (.inr rfl)) (by rw [e2, size_76]; decide) (by omega)
  · first
      | refine wp_if_neg (by simp [full]) ?_
      | (refine wpAny_bind ?_; refine wp_if_neg (by simp [full]) ?_; refine wpAny_pure ?_)
    refine wpAny_pure (q true g M us (ep + 1) u sb ⟨⟨_, o4, ⟨o2.1, o2.2.1, o2.2.2⟩, rfl⟩, ins, p3, nd2, mem2, led2, ?_, by rw [ml]; exact few⟩ (fun z => absurd z hm) fun _ => pm)
    unfold SetTable.tooFull at full
    rw [decide_eq_true_eq, p10] at full
    rw [ml]
    omega
end
end Rz
namespace Rz
open PySem PySem.Spec PyProof.Rows L2
section
variable {P : Program} {w : World} {A : Around} {E : Value → Shared → Prop} {s : Shared} {K : Type} [DecidableEq K] {κ : KSet P w K}
/-- what came in from the first i rows -/
structure Came (ks : List (Addr × K)) (i : Nat) (L : List (Addr × K)) : Prop where
  from_ : ∀ q ∈ L, q ∈ ks.take i
  all : ∀ q ∈ ks.take i, q.2 ∈ L.map (·.2)
  few : L.length ≤ i
theorem Came.step {ks L M : List (Addr × K)} {i : Nat} {x : Addr × K} (c : Came ks i L) (h : ks[i]? = some x) (yes : x.2 ∈ L.map (·.2) → M = L) (no : x.2 ∉ L.map (·.2) → M.Perm (x :: L)) : Came ks (i + 1) M := by
  have tk : ks.take (i + 1) = ks.take i ++ [x] := by rw [List.take_add_one, h]; rfl
  by_cases hm : x.2 ∈ L.map (·.2)
  · rw [yes hm]
    refine ⟨fun q hq => ?_, fun q hq => ?_, Nat.le_succ_of_le c.few⟩
    · rw [tk]
      exact List.mem_append_left _ (c.from_ q hq)
    · rw [tk] at hq
      rcases List.mem_append.mp hq with z | z
      · exact c.all q z
      · rw [List.mem_singleton.mp z]
        exact hm
  · have pm := no hm
    refine ⟨fun q hq => ?_, fun q hq => ?_, by rw [pm.length_eq]; exact Nat.succ_le_succ c.few⟩
    · rw [tk]
      rcases List.mem_cons.mp (pm.mem_iff.mp hq) with z | z
      · rw [z]
        exact List.mem_append_right _ (List.mem_singleton.mpr rfl)
      · exact List.mem_append_left _ (c.from_ q z)
    · rw [(pm.map (·.2)).mem_iff, List.map_cons]
      rw [tk] at hq
      rcases List.mem_append.mp hq with z | z
      · exact List.mem_cons_of_mem _ (c.all q z)
      · rw [List.mem_singleton.mp z]
        exact List.mem_cons_self
theorem TsAt.stay {h g : Heap} {a : Addr} {L : List (Addr × K)} {es : Array (Int × Value)} {ep : Nat} {t : SetTable} (Z : TsAt κ h a L es ep t) (ha : ∀ o, h.get? a = some o → g.get? a = some o) (hm : ∀ q ∈ L, κ.kd.is g q.2 q.1) : TsAt κ g a L es ep t :=
  ⟨let ⟨o, e, r⟩ := Z.obj; ⟨o, ha o e, r⟩, Z.lst, Z.tab, Z.nd, hm, Z.led, Z.room, Z.few⟩
theorem ts_fresh {h : Heap} {a : Addr} (e : h.get? a = some { cls := .type "set", dict := none, data := .set #[] 0 (.fresh 0 0 (!w.params.followText "set-order")) }) : TsAt κ h a [] #[] 0 (.fresh 0 0 (!w.params.followText "set-order")) := by
  refine ⟨⟨_, e, ⟨rfl, rfl, rfl⟩, rfl⟩, rfl, ⟨List.Pairwise.nil, rfl, rfl, .inl rfl, fun x hx => (by cases hx), fun i h j hi => (by simp [hss] at hi)⟩, List.nodup_nil, fun q hq => (by cases hq), ?_, by show 0 * 5 < 7 * 3; decide, by show 0 < 64; decide⟩
  show _ ∨ (!w.params.followText "set-order") = true
  cases w.params.followText "set-order"
  · exact .inr rfl
  · exact .inl rfl
/-- the loop that fills the set -/
theorem ts_loop {it : Addr} {fp wr : List Addr} {G : Array GenState → Array GenState → Prop} {n : Nat} {Pv : Nat → Value → Prop} {St : Nat → Shared → Prop} {R : Result → Shared → Prop}
    (W : WalksS P w A.in1 it fp wr G n Pv St) (a : Addr) (out : a ∉ fp) (ks : List (Addr × K)) (hn : n = ks.length) (few : ks.length < 64) (val : ∀ i v, Pv i v → ∃ q, ks[i]? = some q ∧ v = .ref q.1)
    (g0 : Heap) (hk : ∀ q ∈ ks, κ.kd.is g0 q.2 q.1) (new : g0.get? a = none) (newW : ∀ b ∈ wr, g0.get? b = none) (hr : κ.kd.room A.in1) :
    ∀ (m i : Nat) (s : Shared), n - i = m → i ≤ n → St i s → (∀ b o, g0.get? b = some o → s.heap.get? b = some o) → (∃ L es ep t, TsAt κ s.heap a L es ep t ∧ Came ks i L) →
      (∀ s2 L es ep t, Moved (a :: wr) G s s2 → TsAt κ s2.heap a L es ep t → Came ks n L → (∀ b o, g0.get? b = some o → s2.heap.get? b = some o) → R (.ok (.ret .none)) s2) →
      codeAny (model P w) A (.builtin "set.update.loop" ⟨[.ref a, .ref it], []⟩) R s := by
  have out2 : a ∉ wr := fun z => out (W.sub _ z)
  have more : ∀ b ∈ wr, b ∈ a :: wr := fun b hb => List.mem_cons_of_mem _ hb
  have old : ∀ {s1 s2 : Shared}, Moved wr G s1 s2 → (∀ b o, g0.get? b = some o → s1.heap.get? b = some o) → ∀ b o, g0.get? b = some o → s2.heap.get? b = some o := fun mv k b o e =>
    mv.heap b o (fun hb => by rw [newW b hb] at e; cases e) (k b o e)
  have inK : ∀ {i : Nat} {L : List (Addr × K)}, Came ks i L → ∀ q ∈ L, q ∈ ks := fun c q hq => List.mem_of_mem_take (c.from_ q hq)
  intro m
  induction m with
  | zero =>
    intro i s hm hi st k ⟨L, es, ep, t, Z, c⟩ fin
    obtain rfl : i = n := by omega
    refine codeAny_builtin F.entry_set_update_loop ?_
    rw [Around.under_plainId F.plain_set_update_loop _]
    show wpAny _ A.in1 (pyNext (.ref it) >>= _) _ _ s
    refine wpAny_bind (W.done s _ _ st fun s2 mv => ?_)
    show wpAny _ A.in1 (ret Value.none) _ _ s2
    have k2 := old mv k
    exact wpAny_pure (fin s2 L es ep t (mv.mono more) (Z.stay (fun o e => mv.heap a o out2 e) fun q hq => κ.keep (hk q (inK c q hq)) fun o e => k2 _ o e) c k2)
  | succ m ih =>
    intro i s hm hi st k ⟨L, es, ep, t, Z, c⟩ fin
    have lt : i < n := by omega
    refine codeAny_builtin F.entry_set_update_loop ?_
    rw [Around.under_plainId F.plain_set_update_loop _]
    show wpAny _ A.in1 (pyNext (.ref it) >>= _) _ _ s
    refine wpAny_bind (W.item i s _ _ lt st fun v s2 hv st2 mv => ?_)
    obtain ⟨x, hx, rfl⟩ := val i v hv
    have k2 := old mv k
    have Z2 := Z.stay (g := s2.heap) (fun o e => mv.heap a o out2 e) fun q hq => κ.keep (hk q (inK c q hq)) fun o e => k2 _ o e
    have x2 : κ.kd.is s2.heap x.2 x.1 := κ.keep (hk x (List.mem_of_getElem? hx)) fun o e => k2 _ o e
    show wpAny _ A.in1 (holding [Value.ref x.1] (setAdd a (.ref x.1)) >>= _) _ _ s2
    refine wpAny_bind (wpAny_holding ?_)
    unfold setAdd
    refine wpAny_holding (wpAny_bind (κ.kd.pyHash hr x2 ?_))
    refine ts_add (s := { s2 with toks := s2.toks + κ.kd.draws x.2 }) Z2 x2 hr (by have := c.few; omega) fun b g M us e2 u sb Z3 yes no => ?_
    have k3 : ∀ b o, g0.get? b = some o → g.get? b = some o := fun b o e => (sb.2 b (fun z => by rw [z, new] at e; cases e)).trans (k2 b o e)
    refine wpAny_pure ⟨plainId_quiet F.plain_set_update_loop _, ih (i + 1) _ (by omega) lt (W.frame _ s2 _ _ st2 (Nat.le_add_right _ _) fun b hb o e => ?_) k3 ⟨M, us, e2, u, Z3, c.step hx yes no⟩ fun s3 L3 es3 ep3 t3 mv3 Z4 c4 k4 => ?_⟩
    · rw [sb.2 b (fun z : b = a => out (by rw [← z]; exact hb))]
      exact e
    · refine fin s3 L3 es3 ep3 t3 (Moved.trans W.gtrans ((mv.mono more).then_heap (Nat.le_add_right _ _) fun b o hb e => ?_) mv3) Z4 c4 k4
      rw [sb.2 b (fun z : b = a => hb (by rw [z]; exact List.mem_cons_self))]
      exact e
end
end Rz

namespace Rz
open PySem PySem.Spec PyProof.Rows L2
section
variable {P : Program} {w : World} {A : Around} {E : Value → Shared → Prop} {s : Shared} {K : Type} [DecidableEq K] {κ : KSet P w K}
/-- a set that was just made -/
abbrev frK (w : World) : Obj := { cls := .type "set", dict := none, data := .set #[] 0 (.fresh 0 0 (!w.params.followText "set-order")) }
/-- set(xs) of a list -/
theorem call_setK {l : Addr} {items : Array Value} (ks : List (Addr × K)) {Q : Value → Shared → Prop} (hh : A.handled = none) (hl : s.heap.IsList l items) (hit : items.toList = ks.map fun q => Value.ref q.1)
    (hk : ∀ q ∈ ks, κ.kd.is s.heap q.2 q.1) (few : ks.length < 64) (hr : ∀ B : Around, B.units ≤ A.units + 3 → κ.kd.room B)
    (h : ∀ (g : Heap) (tk : Nat) L es ep t, TsAt κ g s.heap.objs.size L es ep t → Came ks ks.length L → (∀ b o, s.heap.get? b = some o → g.get? b = some o) → Q (.ref s.heap.objs.size) { s with heap := g, toks := tk }) :
    wpAny (model P w) A (call (.type "set") [.ref l]) Q E s := by
  have isz : items.size = ks.length := by
    have e := congrArg List.length hit
    rw [Array.length_toList, List.length_map] at e
    exact e
  obtain ⟨c, tl, hmro⟩ := PySem.F.called_set.mro
  have cm := PySem.F.called_set.made
  have cs := PySem.F.called_set.sub
  refine wpAny_call (codeAny_of_tree ?_)
  show wpAny _ _ (callAny (.type "set") _) _ _ _
  refine wpAny_pure ⟨Code.quiet_builtin _ (by decide +kernel), codeAny_builtin PySem.F.entry_type_call ?_⟩
  rw [Around.under_plain (weight_type_call_type "set" [.ref l] []) rfl]
  have cn := PySem.F.called_set.notType
  have cc := PySem.F.called_set.canCreate
  have ct := PySem.F.typeCall_set_1 (.ref l)
  repeat (any_goals (first | assumption | wp_step))
  refine codeAny_mono (code_set_led1 (.ref l) (E := E) (Q₁ := fun u s1 => u = .ref s.heap.objs.size ∧ s1 = { s with heap := s.heap.push (frK w) }) ⟨rfl, rfl⟩) fun r s1 hr1 => ?_
  match r, hr1 with
  | .error e, hr1 => exact hr1
  | .ok .next, hr1 => exact hr1.elim
  | .ok .brk, hr1 => exact hr1.elim
  | .ok .cont, hr1 => exact hr1.elim
  | .ok (.ret u), hr1 =>
    obtain ⟨rfl, rfl⟩ := hr1
    have at0 : (s.heap.push (frK w)).get? s.heap.objs.size = some (frK w) := Heap.get?_push_size _ rfl
    have ty0 : Shared.TypeIs { s with heap := s.heap.push (frK w) } (.ref s.heap.objs.size) "set" := ⟨_, at0, rfl⟩
    have il := PySem.F.called_set.init.lookup
    have ib := PySem.F.called_set.init.bind (.ref s.heap.objs.size)
    repeat (any_goals (first | assumption | wp_step))
    refine codeAny_mono (codeAny_call_builtin (R := wants (fun r s2 => r = .none ∧ ∃ g tk L es ep t, s2 = { s with heap := g, toks := tk } ∧ TsAt κ g s.heap.objs.size L es ep t ∧ Came ks ks.length L ∧
        (∀ b o, s.heap.get? b = some o → g.get? b = some o)) E) PySem.F.called_set.init.plain PySem.F.entry_set_init (check_set_init_1 ty0 ?_)) fun r2 s2 h2 => ?_
    · obtain ⟨ol, e1, e2, n, e3⟩ := id hl
      obtain ⟨oc, od, odt, osl⟩ := ol
      simp only at e2 e3
      subst e2
      subst e3
      have at1 : (s.heap.push (frK w)).get? l = some { cls := .type "list", dict := od, data := .seq items n, slots := osl } := Heap.get?_push_of_some _ e1
      have f1 := PySem.F.sub_list_set
      have f2 := PySem.F.sub_list_frozenset
      have f3 : (Value.type "list" == Value.type "dict") = false := by decide
      have hl1 : (s.heap.push (frK w)).IsList l items := ⟨_, at1, rfl, n, rfl⟩
      unfold Builtin.«set.__init__» noKeywords Builtin.Frozenset.updateFrom
      generalize hPI : pyIter = PI
      wp_walk
      subst hPI
      refine wpAny_pyIter_list hl1 ?_
      refine wpAny_bind (wpAny_runValue ?_)
      have lt := Heap.lt_size e1
      have sz1 : (s.heap.push (frK w)).objs.size = s.heap.objs.size + 1 := Heap.size_push ..
      have calm : A.in1.in1.in1.handled = none := by simp [hh]
      have ne : l ≠ (s.heap.push (frK w)).objs.size := by rw [sz1]; exact Nat.ne_of_lt (Nat.lt_succ_of_lt lt)
      have away : s.heap.objs.size ∉ [(s.heap.push (frK w)).objs.size, l] := by
        rw [sz1]
        simp only [List.mem_cons, List.not_mem_nil, or_false, not_or]
        exact ⟨Nat.ne_of_lt (Nat.lt_succ_self _), Nat.ne_of_gt lt⟩
      have val : ∀ (i : Nat) (v : Value), items[i]? = some v → ∃ q, ks[i]? = some q ∧ v = .ref q.1 := fun i v hv => by
        have e : items.toList[i]? = some v := by rw [Array.getElem?_toList]; exact hv
        rw [hit, List.getElem?_map] at e
        cases e4 : ks[i]? with
        | none => rw [e4] at e; cases e
        | some q =>
          rw [e4] at e
          exact ⟨q, rfl, (Option.some.inj e).symm⟩
      have none_ : ∀ b, s.heap.objs.size ≤ b → s.heap.get? b = none := fun b hb => by
        cases e : s.heap.get? b with
        | none => rfl
        | some o => exact absurd (Nat.lt_of_lt_of_le (Heap.lt_size e) hb) (Nat.lt_irrefl _)
      refine ts_loop ((Walks.list calm _ l ne items).toS) s.heap.objs.size away ks isz few val s.heap hk (none_ _ (Nat.le_refl _)) (fun b hb => none_ b (by
          rw [List.mem_singleton.mp hb, sz1]
          exact Nat.le_succ _)) (hr _ (Nat.le_refl _)) (items.size - 0) 0 _ rfl (Nat.zero_le _)
        ⟨⟨_, Heap.get?_push_size _ rfl, rfl, rfl⟩, (hl1.push _)⟩ (fun b o e => Heap.get?_push_of_some _ (Heap.get?_push_of_some _ e)) ⟨[], #[], 0, _, ts_fresh (Heap.get?_push_of_some _ at0), fun q hq => (by cases hq), fun q hq => (by simp at hq), Nat.le_refl _⟩ fun s3 L es ep t mv Z cm k3 => ?_
      obtain ⟨g, g2, d2, tk, o2⟩ := s3
      obtain rfl : g2 = s.gens := mv.gens
      obtain rfl : d2 = s.drawn := mv.drawn
      obtain rfl : o2 = s.os := mv.os
      show wpAny _ _ _ _ _ _
      refine wpAny_pure ?_
      show wpAny _ _ (ret Value.none) _ _ _
      rw [isz] at cm
      exact wpAny_pure ⟨rfl, g, tk, L, es, ep, t, rfl, Z, cm, k3⟩
    · match r2, h2 with
      | .error e, h2 => exact h2
      | .ok .next, h2 => exact h2.elim
      | .ok .brk, h2 => exact h2.elim
      | .ok .cont, h2 => exact h2.elim
      | .ok (.ret r), h2 =>
        obtain ⟨rfl, g, tk, L, es, ep, t, rfl, Z, cm, k3⟩ := h2
        repeat (any_goals (first | assumption | wp_step))
        exact h _ _ _ _ _ _ Z cm k3
end
end Rz

namespace Rz
open PySem PySem.Spec PyProof.Rows L2
/-! ### tuples of ints and texts: set(xs), sorted(set) -/
section
variable {P : Program} {w : World} {A : Around} {E : Value → Shared → Prop} {s : Shared}
theorem items_mix {k : List Key} {vs : List Value} (h : ItemsAre (mixKind P w) k vs) : ∀ v ∈ vs, (∃ i t, v = Value.int i t) ∨ ∃ x t, v = Value.str x t := by
  induction h with
  | nil => exact fun v hv => by cases hv
  | @cons k0 v0 ks vs h1 _ ih =>
    intro v hv
    rcases List.mem_cons.mp hv with e | e
    · subst e
      rcases keyIs_shape (show keyIs k0 v = true from h1) with ⟨i, t, _, e⟩ | ⟨x, t, _, e⟩
      · exact .inl ⟨i, t, e⟩
      · exact .inr ⟨x, t, e⟩
    · exact ih v e
theorem cls_int (n : Nat) (i : Int) (t : Tok) : ofAClassStatement n (.int i t) = pure false := by
  cases n <;> rfl
theorem cls_str (n : Nat) (x : Str) (t : Tok) : ofAClassStatement n (.str x t) = pure false := by
  cases n <;> rfl
theorem byv_int (n : Nat) (i : Int) (t : Tok) : hashByValue n (.int i t) = pure true := by
  cases n <;> rfl
theorem byv_str (n : Nat) (x : Str) (t : Tok) : hashByValue n (.str x t) = pure false := by
  cases n <;> rfl
theorem cls_mix {k : List Key} {b : Addr} {Q : Bool → Shared → Prop} (hk : IsTupleKey (mixKind P w) s.heap k b) (q : Q false s) : wpAny (model P w) A (ofAClassStatement 8 (.ref b)) Q E s := by
  have ty := hk.typeIs
  obtain ⟨o, items, n, e1, _, e2, hi⟩ := hk
  unfold ofAClassStatement
  refine wpAny_bind (wpAny_typeOf ty ?_)
  dsimp only
  have e3 : (("tuple" : String) == "tuple") = true := by decide
  simp only [e3, if_true, Bool.not_true, Bool.false_eq_true, if_false]
  try refine wpAny_bind (wpAny_pure ?_)
  try simp only [Bool.not_true, Bool.false_eq_true, if_false]
  show wpAny _ _ (seqItems? (.ref b) >>= _) _ _ s
  refine wpAny_bind (wpAny_seqItems e1 e2 ?_)
  dsimp only
  refine wpAny_bind ?_
  show wpAny _ _ (forIn items _ _) _ _ s
  rw [← Array.forIn_toList]
  refine wpAny_forIn_list _ (fun todo r s2 => r.1 = none ∧ s2 = s ∧ ∀ v ∈ todo, (∃ i t, v = Value.int i t) ∨ ∃ x t, v = Value.str x t) _ ?_ ?_ _ _ ⟨rfl, rfl, items_mix hi⟩
  · rintro v todo r s2 ⟨h1, rfl, h2⟩
    have h3 := fun u hu => h2 u (List.mem_cons_of_mem _ hu)
    rcases h2 v List.mem_cons_self with ⟨i, t, rfl⟩ | ⟨x, t, rfl⟩
    · rw [cls_int]
      refine wpAny_bind (wpAny_pure ?_)
      rw [if_neg (by decide)]
      exact wpAny_pure ⟨rfl, rfl, h3⟩
    · rw [cls_str]
      refine wpAny_bind (wpAny_pure ?_)
      rw [if_neg (by decide)]
      exact wpAny_pure ⟨rfl, rfl, h3⟩
  · rintro ⟨r1, r2⟩ s2 ⟨h1, rfl, _⟩
    simp only at h1
    subst h1
    exact wpAny_pure q
theorem byv_mix {k : List Key} {b : Addr} {Q : Bool → Shared → Prop} (hk : IsTupleKey (mixKind P w) s.heap k b) (q : ∀ v, Q v s) : wpAny (model P w) A (hashByValue 8 (.ref b)) Q E s := by
  have ty := hk.typeIs
  obtain ⟨o, items, n, e1, _, e2, hi⟩ := hk
  unfold hashByValue
  refine wpAny_bind (wpAny_specialOf ty PySem.F.slot_tuple_hash.lookup ?_)
  show wpAny _ _ (seqItems? (.ref b) >>= _) _ _ s
  refine wpAny_bind (wpAny_seqItems e1 e2 ?_)
  refine wpAny_bind ?_
  show wpAny _ _ (forIn items _ _) _ _ s
  rw [← Array.forIn_toList]
  refine wpAny_forIn_list _ (fun todo r s2 => s2 = s ∧ (r.1 = none ∨ r.1 = some false) ∧ ∀ v ∈ todo, (∃ i t, v = Value.int i t) ∨ ∃ x t, v = Value.str x t) _ ?_ ?_ _ _ ⟨rfl, .inl rfl, items_mix hi⟩
  · rintro v todo r s2 ⟨rfl, h1, h2⟩
    have h3 := fun u hu => h2 u (List.mem_cons_of_mem _ hu)
    rcases h2 v List.mem_cons_self with ⟨i, t, rfl⟩ | ⟨x, t, rfl⟩
    · rw [byv_int]
      refine wpAny_bind (wpAny_pure ?_)
      rw [if_neg (by decide)]
      exact wpAny_pure ⟨rfl, .inl rfl, h3⟩
    · rw [byv_str]
      refine wpAny_bind (wpAny_pure ?_)
      rw [if_pos (by decide)]
      refine wpAny_pure ?_
      show wpAny _ _ (pure false) _ _ _
      exact wpAny_pure (q false)
  · rintro ⟨r1, r2⟩ s2 ⟨rfl, h1, _⟩
    simp only at h1
    rcases h1 with rfl | rfl
    · exact wpAny_pure (q true)
    · exact wpAny_pure (q false)
/-- the keys of such tuples -/
def tkS (P : Program) (w : World) : KSet P w (List Key) where
  kd := tupleKind (mixKind P w)
  keep := fun hk k => let ⟨o, items, n, e, r⟩ := hk; ⟨o, items, n, k o e, r⟩
  noSet := fun hk ho hd => by
    obtain ⟨o2, items, n, e1, _, e2, _⟩ := hk
    rw [ho] at e1
    cases e1
    rw [hd] at e2
    cases e2
  cls := fun hk q => cls_mix hk q
  byv := fun hk q => byv_mix hk q
/-- a key as the sort sees it -/
def kN : Key → Int ⊕ List Nat
  | .inl i => .inl i
  | .inr x => .inr x.cps.toList
def kLt (a b : List Key) : Bool := (listOrd itemOrd).blt (a.map kN) (b.map kN)
/-- texts just where the shape has them -/
def Fits (sh : Nat → Bool) : Nat → List Key → Prop
  | _, [] => True
  | i, .inl _ :: r => sh i = false ∧ Fits sh (i + 1) r
  | i, .inr _ :: r => sh i = true ∧ Fits sh (i + 1) r
theorem tup_items {sh : Nat → Bool} : ∀ {k : List Key} {vs : List Value} {i : Nat}, ItemsAre (mixKind P w) k vs → Fits sh i k → tupItems sh i vs = some (k.map kN)
  | _, _, _, .nil, _ => rfl
  | .inl n :: r, _, i, .cons h1 h2, ⟨f1, f2⟩ => by
    rcases keyIs_shape (show keyIs (.inl n) _ = true from h1) with ⟨j, t, e1, rfl⟩ | ⟨x, t, e1, _⟩
    · cases e1
      show (if sh i = true then none else (tupItems sh (i + 1) _).map (Sum.inl n :: ·)) = _
      rw [f1, if_neg Bool.false_ne_true, tup_items h2 f2]
      rfl
    · cases e1
  | .inr x :: r, _, i, .cons h1 h2, ⟨f1, f2⟩ => by
    rcases keyIs_shape (show keyIs (.inr x) _ = true from h1) with ⟨j, t, e1, _⟩ | ⟨y, t, e1, rfl⟩
    · cases e1
    · cases e1
      show (if sh i = true then (tupItems sh (i + 1) _).map (Sum.inr x.cps.toList :: ·) else none) = _
      rw [f1, if_pos rfl, tup_items h2 f2]
      rfl
theorem keyC_of {sh : Nat → Bool} {h : Heap} {k : List Key} {b : Addr} (hk : IsTupleKey (mixKind P w) h k b) (f : Fits sh 0 k) : G.tupKeyC h sh (.ref b) = some (k.map kN) := by
  obtain ⟨o, items, n, e1, e2, e3, hi⟩ := hk
  unfold G.tupKeyC
  have t : G.isTupObj h (.ref b) = true := by
    unfold G.isTupObj
    show (match h.get? b with | some o => (match o.cls with | .type n => n == "tuple" | _ => false) | none => false) = true
    rw [e1]
    dsimp only
    rw [e2]
    rfl
  rw [if_pos t]
  show (match h.get? b with | some o => (match o.data with | .seq xs _ => tupItems sh 0 xs.toList | _ => none) | none => none) = _
  rw [e1]
  dsimp only
  rw [e3]
  exact tup_items hi f
end
end Rz

namespace Rz
open PySem PySem.Spec PyProof.Rows L2
/-! ### sorted(set) of tuples of ints and texts -/
theorem rows_of {K : Type} {L : List (Addr × K)} : ∀ {vs : List Value}, (∀ v ∈ vs, ∃ q ∈ L, v = Value.ref q.1) → ∃ M : List (Addr × K), vs = M.map (fun q => Value.ref q.1) ∧ ∀ q ∈ M, q ∈ L
  | [], _ => ⟨[], rfl, fun q hq => by cases hq⟩
  | v :: vs, h => by
    obtain ⟨q, hq, e⟩ := h v List.mem_cons_self
    obtain ⟨M, e2, m⟩ := rows_of (vs := vs) fun u hu => h u (List.mem_cons_of_mem _ hu)
    refine ⟨q :: M, by rw [List.map_cons, e, e2], fun r hr => ?_⟩
    rcases List.mem_cons.mp hr with z | z
    · rw [z]
      exact hq
    · exact m r z
theorem rows_perm {K : Type} {L M : List (Addr × K)} (nd : (L.map (·.2)).Nodup) (inj : ∀ q ∈ L, ∀ r ∈ L, q.1 = r.1 → q = r) (sub : ∀ q ∈ M, q ∈ L) (pm : (M.map fun q => Value.ref q.1).Perm (L.map fun q => Value.ref q.1)) : M.Perm L := by
  have nL : L.Nodup := List.Pairwise.of_map (·.2) (fun _ _ n e => n (congrArg _ e)) nd
  have nR : (L.map fun q => Value.ref q.1).Nodup := List.pairwise_map.mpr (List.Pairwise.imp_of_mem (fun {q r} hq hr n e => by
    injection e with e
    exact n (inj q hq r hr e)) nL)
  have nM : M.Nodup := List.Pairwise.of_map (fun q => Value.ref q.1) (fun _ _ n e => n (congrArg (fun q : Addr × K => Value.ref q.1) e)) (pm.nodup_iff.mpr nR)
  refine (List.perm_ext_iff_of_nodup nM nL).mpr fun q => ⟨sub q, fun hq => ?_⟩
  obtain ⟨r, hr, e⟩ := List.mem_map.mp (pm.mem_iff.mpr (List.mem_map.mpr ⟨q, hq, rfl⟩))
  injection e with e
  rw [← inj r (sub r hr) q hq e]
  exact hr
section
variable {P : Program} {w : World} {A : Around} {E : Value → Shared → Prop} {s : Shared}
theorem first_of {sh : Nat → Bool} {h : Heap} {k : List Key} {b : Addr} (hk : IsTupleKey (mixKind P w) h k b) (f : Fits sh 0 k) (ne : k ≠ []) : ∃ v, TupOf h sh (.ref b) v := by
  obtain ⟨o, items, n, e1, e2, e3, hi⟩ := hk
  generalize hl : items.toList = vs at hi
  cases hi with
  | nil => exact absurd rfl ne
  | @cons k0 v0 r us h1 h2 =>
    have at0 : items[0]? = some v0 := by
      rw [← Array.getElem?_toList, hl]
      rfl
    cases k0 with
    | inl i =>
      rcases keyIs_shape (show keyIs (.inl i) v0 = true from h1) with ⟨j, t, e4, e5⟩ | ⟨x, t, e4, _⟩
      · exact ⟨v0, b, o, items, n, rfl, e1, e2, e3, at0, fun _ => ⟨j, t, e5⟩, fun z => by rw [f.1] at z; cases z⟩
      · cases e4
    | inr y =>
      rcases keyIs_shape (show keyIs (.inr y) v0 = true from h1) with ⟨j, t, e4, _⟩ | ⟨x, t, e4, e5⟩
      · cases e4
      · exact ⟨v0, b, o, items, n, rfl, e1, e2, e3, at0, (fun z => by rw [f.1] at z; cases z), fun _ => ⟨x, t, e5⟩⟩
theorem tups_of {sh : Nat → Bool} {h : Heap} : ∀ {vs : List Value}, (∀ v ∈ vs, ∃ f, TupOf h sh v f) → ∃ fs, TupsOf h sh vs fs
  | [], _ => ⟨[], .nil⟩
  | v :: vs, hv => by
    obtain ⟨f, hf⟩ := hv v List.mem_cons_self
    obtain ⟨fs, hfs⟩ := tups_of (vs := vs) fun u hu => hv u (List.mem_cons_of_mem _ hu)
    exact ⟨f :: fs, .cons hf hfs⟩
theorem sorted_tsK {a : Addr} {L : List (Addr × List Key)} {es : Array (Int × Value)} {ep : Nat} {t : SetTable} {sh : Nat → Bool} {Q : Value → Shared → Prop} (Z : TsAt (tkS P w) s.heap a L es ep t) (hh : A.handled = none) (hf : ∀ q ∈ L, Fits sh 0 q.2 ∧ q.2 ≠ [])
    (hQ : ∀ (s2 : Shared) (p : Addr) (out : Array Value) (c : Nat) (M : List (Addr × List Key)), (∀ b o, s.heap.get? b = some o → s2.heap.get? b = some o) → s2.gens = s.gens → s2.os = s.os → s.heap.objs.size ≤ p →
      s2.heap.get? p = some (seqObj "list" out c) → out.toList = M.map (fun q => Value.ref q.1) → M.Perm L → M.Pairwise (fun q r => kLt r.2 q.2 = false) → Q (.ref p) s2) :
    wpAny (model P w) A (call (.builtin "sorted") [.ref a]) Q E s := by
  obtain ⟨o, e1, e2, e3⟩ := Z.obj
  have sz := rws_len Z.lst
  have few := Z.few
  refine Calls.call_function_entry kind_sorted plain_sorted entry_sorted (args_sorted1 _) ?_
  unfold Builtin.«sorted»
  refine wpAny_bind (m := checkCount "sorted" 1 1 _) (wpAny_pure ?_)
  refine wpAny_bind (collect_set (A := A.in1) hh ⟨o, e1, e2.1, e3⟩ Z.fit (by unfold scanBound; omega) Z.tab.ris Z.led fun s1 vs k1 z1 g1 o1 pv => ?_)
  have pv : vs.Perm (L.map fun q => Value.ref q.1) := by
    rw [Z.lst] at pv
    unfold rws at pv
    rw [List.map_map] at pv
    exact pv
  have vl : vs.length = L.length := by rw [pv.length_eq, List.length_map]
  refine wpAny_bind (wpAny_newList ?_ (by rw [vl, sizeLine_eq]; omega))
  have at1 : (s1.heap.push (seqObj "list" vs.toArray 0)).get? s1.heap.objs.size = some (seqObj "list" vs.toArray 0) := Heap.get?_push_size _ rfl
  have kept : ∀ q ∈ L, IsTupleKey (mixKind P w) (s1.heap.push (seqObj "list" vs.toArray 0)) q.2 q.1 := fun q hq => (tkS P w).keep (Z.mem q hq) fun u e => Heap.get?_push_of_some _ (k1 _ u e)
  have which : ∀ v ∈ vs, ∃ q ∈ L, v = Value.ref q.1 := fun v hv => by
    obtain ⟨q, hq, e⟩ := List.mem_map.mp (pv.mem_iff.mp hv)
    exact ⟨q, hq, e.symm⟩
  obtain ⟨fs, hfs⟩ := tups_of (sh := sh) (h := s1.heap.push (seqObj "list" vs.toArray 0)) (vs := vs) fun v hv => by
    obtain ⟨q, hq, rfl⟩ := which v hv
    exact first_of (kept q hq) (hf q hq).1 (hf q hq).2
  have keys : ∀ v ∈ vs, ∃ q ∈ L, v = Value.ref q.1 ∧ G.tupKeyC (s1.heap.push (seqObj "list" vs.toArray 0)) sh v = some (q.2.map kN) := fun v hv => by
    obtain ⟨q, hq, rfl⟩ := which v hv
    exact ⟨q, hq, rfl, keyC_of (kept q hq) (hf q hq).1⟩
  refine wpAny_bind (wpAny_holding (wpAny_call_entry slot_list_sort ⟨_, at1, rfl⟩ entry_list_sort (G.list_sort_tups (s := { s1 with heap := s1.heap.push (seqObj "list" vs.toArray 0) }) at1 hfs (fun v hv => let ⟨q, _, _, e⟩ := keys v hv; ⟨_, e⟩) (by rw [vl, sizeLine_eq]; omega) fun st hp hs _ => ⟨_, rfl, ?_⟩) (args_list_sort _)))
  have hl : (arrOf st).toList.Perm (vs.zip vs) := by rw [← pairsOf_toList]; exact Array.perm_iff_toList_perm.mp hp
  have pr : ∀ p ∈ (arrOf st).toList, p.1 = p.2 ∧ p.1 ∈ vs := fun p hp2 => mem_zip_self (hl.mem_iff.mp hp2)
  obtain ⟨c, hc⟩ := sortedHeap_at (vs := vs) (out := (arrOf st).map (·.2)) at1
  have outs : ((arrOf st).map (·.2)).toList.Perm vs := by
    rw [Array.toList_map]
    have y := hl.map (fun p : Value × Value => p.2)
    rw [show (vs.zip vs).map (fun p : Value × Value => p.2) = vs from List.map_snd_zip (Nat.le_refl _)] at y
    exact y
  obtain ⟨M, eM, sub⟩ := rows_of (L := L) (vs := ((arrOf st).map (·.2)).toList) fun v hv => which v (outs.mem_iff.mp hv)
  have inj : ∀ q ∈ L, ∀ r ∈ L, q.1 = r.1 → q = r := fun q hq r hr e => by
    have y1 := Z.mem q hq
    rw [e] at y1
    exact Prod.ext e ((tkS P w).kd.inj y1 (Z.mem r hr))
  have pM : M.Perm L := rows_perm Z.nd inj sub (by rw [← eM]; exact outs.trans pv)
  refine wpAny_pure ⟨_, rfl, hQ _ s1.heap.objs.size _ c M (fun b u e => ?_) g1 o1 z1 hc eM pM ?_⟩
  · have y := k1 b u e
    have lt := Heap.lt_size y
    show (sortedHeap (s1.heap.push (seqObj "list" vs.toArray 0)) s1.heap.objs.size vs _).get? b = some u
    rw [sortedHeap_old (Nat.ne_of_lt lt) (by rw [size_push']; exact Nat.lt_succ_of_lt lt)]
    exact Heap.get?_push_of_some _ y
  · rw [List.pairwise_iff_getElem]
    intro i j hi hj hij
    have ln : (arrOf st).size = M.length := by
      have y := congrArg List.length eM
      rw [Array.length_toList, Array.size_map, List.length_map] at y
      exact y
    have kk : ∀ (n : Nat) (hn : n < M.length), KK (G.tupKindC (s1.heap.push (seqObj "list" vs.toArray 0)) sh) (arrOf st) n = (M[n]).2.map kN := fun n hn => by
      have hn2 : n < (arrOf st).size := by rw [ln]; exact hn
      have e5 : (arrOf st)[n]? = some (arrOf st)[n] := Array.getElem?_eq_getElem hn2
      have inA : (arrOf st)[n] ∈ (arrOf st).toList := Array.mem_toList_iff.mpr (Array.getElem_mem hn2)
      obtain ⟨y1, y2⟩ := pr _ inA
      have e6 : (arrOf st)[n].2 = Value.ref (M[n]).1 := by
        have z := congrArg (fun l : List Value => l[n]?) eM
        simp only [Array.toList_map, List.getElem?_map, Array.getElem?_toList, e5, List.getElem?_eq_getElem hn] at z
        exact Option.some.inj z
      have key := keyC_of (kept _ (sub _ (List.getElem_mem hn))) (hf _ (sub _ (List.getElem_mem hn))).1
      unfold KK
      rw [e5]
      dsimp only
      rw [y1, e6, key]
      rfl
    have y := hs i j (Nat.le_of_lt hij) (by rw [pairsOf_size, vl, ← pM.length_eq]; exact hj)
    rw [kk i hi, kk j hj] at y
    exact y
end
end Rz

namespace Rz
open PySem PySem.Spec PyProof.Rows L2
/-! ### .. as rules -/
/-- the set at a, its tuples aside -/
def Ts0 (P : Program) (w : World) (h : Heap) (a : Addr) (L : List (Addr × List Key)) : Prop :=
  ∃ (es : Array (Int × Value)) (ep : Nat) (t : SetTable), (∃ o, h.get? a = some o ∧ o.ExactSet ∧ o.data = .set es ep t) ∧ es.toList = rws (tkS P w) L ∧ TabOk t (hss (tkS P w) L) ∧ (L.map (·.2)).Nodup ∧
    (w.params.followText "set-order" = true ∨ t.led = true) ∧ L.length * 5 < t.mask * 3 ∧ L.length < 64
def TsO (P : Program) (w : World) (a : Addr) (L : List (Addr × List Key)) : HO := .ext fun h => Ts0 P w h a L
theorem tsO_ok {P : Program} {w : World} {H : Hp} {h : Heap} {a : Addr} {L : List (Addr × List Key)} (x : Ts0 P w h a L) : ObjOk P w H h a (TsO P w a L) := by
  have x0 := x
  obtain ⟨es, ep, t, ⟨o, e, _⟩, _⟩ := x0
  refine ⟨x, ⟨o, e⟩, fun h1 h2 q k => ?_⟩
  obtain ⟨es, ep, t, ⟨o, e, r⟩, q2⟩ := (show Ts0 P w h1 a L from q)
  exact ⟨es, ep, t, ⟨o, k o e, r⟩, q2⟩
theorem items_vals {P : Program} {w : World} : ∀ {k : List Key} {us : List Value}, Vals (k.map kV) us → ItemsAre (mixKind P w) k us
  | [], _, .nil => .nil
  | .inl n :: k, _, .cons r t => by
    obtain ⟨tk, rfl⟩ := (show ∃ t, _ = Value.int n t from r)
    exact .cons (mixKind_int P w n tk) (items_vals t)
  | .inr x :: k, _, .cons r t => by
    obtain ⟨tk, rfl⟩ := (show ∃ t, _ = Value.str x t from r)
    exact .cons (mixKind_str P w x tk) (items_vals t)
theorem refs_vals : ∀ {ks : List (Addr × List Key)} {us : List Value}, Vals (ks.map fun p => V.ref p.1) us → us = ks.map fun p => Value.ref p.1
  | [], _, .nil => rfl
  | p :: ks, _, .cons r t => by
    cases r
    rw [refs_vals t]
    rfl
theorem vals_refs : ∀ (ks : List (Addr × List Key)), Vals (ks.map fun p => V.ref p.1) (ks.map fun p => Value.ref p.1)
  | [] => .nil
  | p :: ks => .cons rfl (vals_refs ks)
def rSetTs (K : PySem.W.Frag) (P : Program) (w : World) : List V → Hp → VK → Prop := fun xs H Q => ∃ (l : Addr) (ks : List (Addr × List Key)), xs = [V.ref l] ∧ SqL K H l (ks.map fun p => V.ref p.1) ∧ (∀ p ∈ ks, SqT K H p.1 (p.2.map kV)) ∧ ks.length < 64 ∧
  ∀ a L, H a = none → (∀ p ∈ L, p ∈ ks) → (∀ p ∈ ks, p.2 ∈ L.map (·.2)) → (L.map (·.2)).Nodup → L.length < 64 → Q (.ref a) (upd H a (TsO P w a L))
def rSortTs (K : PySem.W.Frag) (P : Program) (w : World) : List V → Hp → VK → Prop := fun vs H Q => ∃ (a : Addr) (L : List (Addr × List Key)) (sh : Nat → Bool), vs = [V.ref a] ∧ H a = some (TsO P w a L) ∧ (∀ p ∈ L, SqT K H p.1 (p.2.map kV)) ∧ (∀ p ∈ L, Fits sh 0 p.2 ∧ p.2 ≠ []) ∧
  ∀ (M : List (Addr × List Key)) (p : Addr), M.Perm L → M.Pairwise (fun q r => kLt r.2 q.2 = false) → H p = none → Q (.ref p) (upd H p (.lst (M.map fun q => V.ref q.1)))
section
variable {X : Cx}
theorem inv_key {pins : List (Addr × Obj)} {σ : L2.St} {H : Hp} {s : Shared} {b : Addr} {k : List Key} (I : Inv X pins σ H s) (h : SqT X.K H b (k.map kV)) : IsTupleKey (mixKind X.prog X.w) s.heap k b := by
  obtain ⟨its, r, ⟨o, ho, hc, n, hd⟩, _⟩ := I.tuple h
  exact ⟨o, its.toArray, n, ho, hc, hd, by simpa using items_vals r⟩
theorem cr_setTs (hc : X.calm = true) (hu : X.A.units + 64 < cLine) : CallR X (.type "set") (rSetTs X.K X.prog X.w) := by
  intro pins s σ H xs us Q I r h
  obtain ⟨l, ks, rfl, hl, hk, few, q⟩ := h
  rw [Vals.ref1 r]
  obtain ⟨its, rv, pl, hz⟩ := I.list hl
  have hn : H s.heap.objs.size = none := I.hok.fresh (Nat.le_refl _)
  refine call_setK (κ := tkS X.prog X.w) ks (I.ok.hd hc) pl.isList (by simpa using refs_vals rv) (fun p hp => inv_key I (hk p hp)) few (fun B hB => ?_) fun g tk L es ep t Z cm k => ?_
  · show B.units < cLine
    omega
  · have t0 : Ts0 X.prog X.w g s.heap.objs.size L := ⟨es, ep, t, Z.obj, Z.lst, Z.tab, Z.nd, Z.led, Z.room, Z.few⟩
    refine ⟨.ref s.heap.objs.size, upd H s.heap.objs.size (TsO X.prog X.w s.heap.objs.size L), I.laid (t' := tk) k (Nat.le_refl _) (tsO_ok t0), rfl, q _ L hn (fun p hp => ?_) (fun p hp => ?_) Z.nd Z.few⟩
    · exact List.mem_of_mem_take (cm.from_ p hp)
    · exact cm.all p (by rw [List.take_length]; exact hp)
theorem cr_sortTs (hc : X.calm = true) : CallR X (.builtin "sorted") (rSortTs X.K X.prog X.w) := by
  intro pins s σ H vs us Q I r h
  obtain ⟨a, L, sh, rfl, ha, hk, hf, q⟩ := h
  obtain ⟨es, ep, t, z1, z2, z3, z4, z5, z6, z7⟩ := (show Ts0 X.prog X.w s.heap a L from (I.hok a _ ha).1)
  rw [Vals.ref1 r]
  refine sorted_tsK (sh := sh) ⟨z1, z2, z3, z4, fun p hp => inv_key I (hk p hp), z5, z6, z7⟩ (I.ok.hd hc) hf fun s2 p out c M k g o hp hg hout pm pw => ?_
  have hlen : (M.map fun q => V.ref q.1).length ≤ sizeLine := by rw [List.length_map, pm.length_eq, sizeLine_eq]; omega
  have hn : H p = none := I.hok.fresh hp
  have J : Inv X pins σ (upd H p (.lst (M.map fun q => V.ref q.1))) { s with heap := s2.heap, gens := s2.gens, drawn := s2.drawn, toks := s2.toks } :=
    I.call (ch := []) (Un.laid k hp hn) (I.hok.laid k hp ⟨hlen, out.toList, c, by rw [hout]; exact vals_refs M, hg⟩) (by rw [g]; exact I.bare) (fun _ z => nomatch z)
  have e : s2 = { s with heap := s2.heap, gens := s2.gens, drawn := s2.drawn, toks := s2.toks } := by
    obtain ⟨_, _, _, _, _⟩ := s2
    obtain rfl := o
    rfl
  rw [e]
  exact ⟨.ref p, _, J, rfl, q M p pm pw hn⟩
end
theorem kN_inj : ∀ {a b : Key}, kN a = kN b → a = b
  | .inl i, .inl j, h => by
    injection h with h
    rw [h]
  | .inl _, .inr _, h => by cases h
  | .inr _, .inl _, h => by cases h
  | .inr x, .inr y, h => by
    injection h with h
    have e : x.cps = y.cps := Array.toList_inj.mp h
    cases x
    cases y
    exact congrArg (fun z => Sum.inr (PySem.Str.mk z)) e
theorem kNs_inj : ∀ {a b : List Key}, a.map kN = b.map kN → a = b
  | [], [], _ => rfl
  | [], _ :: _, h => by cases h
  | _ :: _, [], h => by cases h
  | x :: a, y :: b, h => by
    rw [List.map_cons, List.map_cons] at h
    injection h with h1 h2
    rw [kN_inj h1, kNs_inj h2]
theorem kLt_total {a b : List Key} (h1 : kLt a b = false) (h2 : kLt b a = false) : a = b := kNs_inj ((listOrd itemOrd).total _ _ h1 h2)
/-- there is one such list -/
theorem keys_one : ∀ {a b : List (List Key)}, a.Pairwise (fun q r => kLt r q = false) → b.Pairwise (fun q r => kLt r q = false) → a.Nodup → b.Nodup → (∀ x, x ∈ a ↔ x ∈ b) → a = b
  | [], [], _, _, _, _, _ => rfl
  | [], y :: b, _, _, _, _, h => absurd ((h y).mpr List.mem_cons_self) (by simp)
  | x :: a, [], _, _, _, _, h => absurd ((h x).mp List.mem_cons_self) (by simp)
  | x :: a, y :: b, ha, hb, na, nb, h => by
    obtain ⟨a1, a2⟩ := List.pairwise_cons.mp ha
    obtain ⟨b1, b2⟩ := List.pairwise_cons.mp hb
    obtain ⟨c1, c2⟩ := List.nodup_cons.mp na
    obtain ⟨d1, d2⟩ := List.nodup_cons.mp nb
    have e : x = y := by
      rcases List.mem_cons.mp ((h y).mpr List.mem_cons_self) with e | e
      · exact e.symm
      · rcases List.mem_cons.mp ((h x).mp List.mem_cons_self) with f | f
        · exact f
        · exact kLt_total (b1 x f) (a1 y e)
    subst e
    refine congrArg (x :: ·) (keys_one a2 b2 c2 d2 fun z => ⟨fun hz => ?_, fun hz => ?_⟩)
    · rcases List.mem_cons.mp ((h z).mp (List.mem_cons_of_mem _ hz)) with f | f
      · exact absurd (f ▸ hz) c1
      · exact f
    · rcases List.mem_cons.mp ((h z).mpr (List.mem_cons_of_mem _ hz)) with f | f
      · exact absurd (f ▸ hz) d1
      · exact f
end Rz

namespace Rz
open PySem PySem.Spec PyProof.Rows L2
/-! ### name = {k: v for ..} on one line, the name a local -/
theorem dsw_true {kx vx : Expr} {gs : List Comprehension} {scope : Scope} {po py : Pos} {y : Str} {l : Nat} {env : Env} (h1 : env.scope.kind = .function) (h2 : env.scope.names.lookup y = some .local) (h3 : (py.line == po.line) = true)
    (h4 : (scope.names.any fun (n, k) => n == y && (k == .local || k == .cell)) = false) : swapsWith (.DictComp kx vx gs scope po) (some (.Name y py)) l env = pure true := by
  have e1 : env.kindOf y = some .local := h2
  have e2 : env.blockKind = .function := by unfold Env.blockKind; rw [h1]; rfl
  unfold swapsWith
  simp only [e2, e1, h4, Expr.pos, h3]
  rfl
theorem ps_setDc {X : Cx} {i : Nat} {y : Str} {py : Pos} {kx vx tg it : Expr} {ifs : List Expr} {scope : Scope} {own : List (Str × Nat)} {po spo : Pos} {wi : TI} {g : TG} {tt : TT} {tk tv : TE} (calm : X.calm = true) (nd : X.N.Nodup) (hy : X.N[i]? = some y) (hyl : X.env.scope.names.lookup y = some .local)
    (hsw : swapsWith (.DictComp kx vx [⟨tg, it, ifs, 0⟩] scope po) (some (.Name y py)) spo.line X.env = pure true) (hi : PI X tg it wi) (bk : BlkOk X.N X.env.scope scope own)
    (hg : ∀ (s : Shared) (H : Hp) (C : Addr) (cl : List (Str × Addr)) (fp : List Addr), PG (X.blk s H scope (compEnvC scope cl C X.env) fp) tg g) (ht : ∀ (s : Shared) (H : Hp) (C : Addr) (cl : List (Str × Addr)) (fp : List Addr), PTs (X.blk s H scope (compEnvC scope cl C X.env) fp) ifs tt)
    (hk : ∀ (s : Shared) (H : Hp) (C : Addr) (cl : List (Str × Addr)) (fp : List Addr), PE (X.blk s H scope (compEnvC scope cl C X.env) fp) kx tk) (hv : ∀ (s : Shared) (H : Hp) (C : Addr) (cl : List (Str × Addr)) (fp : List Addr), PE (X.blk s H scope (compEnvC scope cl C X.env) fp) vx tv)
    (hs : ∀ x, foldedSetIterable it X.env x = pure x := by intro _; rfl) :
    PS X (.Assign [.Name y py] (.DictComp kx vx [⟨tg, it, ifs, 0⟩] scope po) spo) (tAsg (tDc wi g tt tk tv (own.map (·.2))) (gName i)) := by
  refine ⟨fun pins s σ H D I h => ?_⟩
  rw [exec_Assign_Name_used _ _ _ _ hsw]
  refine wpAny_bind (wpAny_standAt (wpAny_bind ?_))
  show wpAny _ X.A (do let _ ← comprehension (.DictComp kx vx [⟨tg, it, ifs, 0⟩] scope po) scope X.env (firstIterPos [⟨tg, it, ifs, 0⟩] po) newDict false (eval it X.env) (some (assign (.Name y py) X.env))) _ _ s
  have h : tDc wi g tt tk tv (own.map (·.2)) σ H (fun v H1 => gName i v σ H1 D.nx) := h
  refine wpAny_bind (thn (dc_core (Qf := fun _ sz => SP X pins D .next sz) calm nd I hi bk hg ht hk hv hs h fun L C sz m G Iz q hn fpk => ?_) fun _ sz hz => wpAny_pure (wpAny_pure hz))
  show wpAny _ _ (assign (.Name y py) X.env (.ref L)) _ _ _
  refine wpAny_assign_Name (store_ok2 (v := V.ref L) Iz nd hy (.inl hyl) rfl (fun s2 I2 ⟨a, same, ha⟩ => ?_) (.inr hyl))
  obtain ⟨f0, f1, f2, f3, f4, f5⟩ := fpk
  have ne : C ≠ a := by
    rcases ha with z | z
    · rw [z]; exact f1
    · exact fun q => f4 y a z q.symm
  exact ⟨m, hn.sameBut same ne, fun g3 same3 => ⟨_, G, I2.turned (t' := s2.toks) (fun c o hc z => (same3.2 c hc).trans z) f0 f1 f3 f4 f5, q⟩⟩
/-- over a list that stays -/
theorem dc_list {K : PySem.W.Frag} {a : Addr} {xs : List V} {g : TG} {tt : TT} {tk tv : TE} {vs : List Nat} {σ : L2.St} {H1 : Hp} {D : Addr} {Qd : Hp → Prop} (Pv : Nat → Hp → Prop) (h0 : Pv 0 (upd H1 D (.dK []))) (hl : ∀ i H, i ≤ xs.length → Pv i H → SqL K H a xs)
    (hs : ∀ i x H, xs[i]? = some x → Pv i H → g x (wipe σ vs) H fun σ2 H2 => wipe σ2 vs = wipe σ vs ∧ tt σ2 H2 fun b H3 =>
      if b = true then tk σ2 H3 fun y H4 => tv σ2 H4 fun z H5 => ∃ kvs k, y = kV k ∧ H5 D = some (.dK kvs) ∧ kvs.length < sizeLine ∧ Pv (i + 1) (upd H5 D (.dK (putK kvs k z))) else Pv (i + 1) H3) (hd : ∀ H, Pv xs.length H → Qd H) :
    ∃ W : Nat → Nat → Hp → Prop, (∃ m, W 0 m (upd H1 D (.dK []))) ∧ ∀ i m H, W i m H →
      ((Itl K a).stop i H ∧ Qd H) ∨ ((Itl K a).go i H ∧ ∃ Nx : Hp → Prop, (∀ H', Nx H' → ∃ m', m' < m ∧ W (i + 1) m' H') ∧ ∀ x H', (Itl K a).yld i H x H' → g x (wipe σ vs) H' fun σ2 H2 => wipe σ2 vs = wipe σ vs ∧ tt σ2 H2 fun b H3 =>
        if b = true then tk σ2 H3 fun y H4 => tv σ2 H4 fun z H5 => ∃ kvs k, y = kV k ∧ H5 D = some (.dK kvs) ∧ kvs.length < sizeLine ∧ Nx (upd H5 D (.dK (putK kvs k z))) else Nx H3) := by
  refine ⟨fun i m H => m = xs.length - i ∧ i ≤ xs.length ∧ Pv i H, ⟨xs.length, rfl, Nat.zero_le _, h0⟩, ?_⟩
  rintro i m H ⟨rfl, hi, p⟩
  have sq := hl i H hi p
  rcases Nat.lt_or_ge i xs.length with lt | ge
  · refine .inr ⟨⟨xs, xs[i], sq, List.getElem?_eq_getElem lt⟩, Pv (i + 1), fun G pg => ⟨xs.length - (i + 1), by omega, rfl, lt, pg⟩, fun x G y => ?_⟩
    obtain ⟨e, y⟩ := y
    subst e
    exact hs i x _ (y xs sq) p
  · obtain rfl : i = xs.length := Nat.le_antisymm hi ge
    exact .inl ⟨⟨xs, sq, Nat.le_refl _⟩, hd H p⟩
end Rz

namespace Rz
open PySem PySem.Spec PyProof.Rows L2
/-! ### set(xs) of a list of texts -/
theorem strs_nth : ∀ {us : List Value} {xs : List Str} {i : Nat} {v : Value}, StrsAre us xs → us[i]? = some v → ∃ k t, xs[i]? = some k ∧ v = .str k t
  | _, _, i, v, .nil, h => by cases h
  | _, _, 0, v, .cons k t r, h => by
    have z := Option.some.inj h
    exact ⟨k, t, rfl, z.symm⟩
  | _, _, i + 1, v, .cons k t r, h => strs_nth (i := i) r (by simpa using h)
section
variable {P : Program} {w : World} {A : Around} {E : Value → Shared → Prop} {s : Shared}
theorem sl_loop {R : Result → Shared → Prop} {I a ax : Addr} {items : Array Value} {xs : List Str} (hh : A.in1.handled = none) (ne : a ≠ I) (na : a ≠ ax) (nI : ax ≠ I) (hi : StrsAre items.toList xs) (sz : items.size = xs.length) (hz : xs.length + 1 < scanBound) :
    ∀ (k i : Nat) (s : Shared) (l : List Str), xs.length - i = k → i ≤ xs.length → s.heap.IsListIter I ax i → s.heap.IsList ax items → SsAt P w s.heap a l → (∀ y, y ∈ l ↔ y ∈ xs.take i) → l.length ≤ i →
    (∀ (h' : Heap) (tk : Nat) (l' : List Str), SsAt P w h' a l' → (∀ y, y ∈ l' ↔ y ∈ xs) → l'.length ≤ xs.length → (∀ c o, c ≠ a → c ≠ I → s.heap.get? c = some o → h'.get? c = some o) → R (.ok (.ret .none)) { s with heap := h', toks := tk }) →
    codeAny (model P w) A (.builtin "set.update.loop" ⟨[.ref a, .ref I], []⟩) R s := by
  have W := Walks.list (prog := P) (w := w) hh I ax nI items
  intro k
  induction k with
  | zero =>
    intro i s l hk hi0 st sl hS hm hl hR
    obtain rfl : i = xs.length := by omega
    refine codeAny_builtin PyProof.Rows.F.entry_set_update_loop ?_
    rw [Around.under_plainId PyProof.Rows.F.plain_set_update_loop _]
    show wpAny _ A.in1 (pyNext (.ref I) >>= _) _ _ s
    refine wpAny_bind (W.done s _ _ (by rw [sz]; exact ⟨st, sl⟩) fun h' tk kp => ?_)
    show wpAny _ A.in1 (ret Value.none) _ _ _
    exact wpAny_pure (hR h' tk l (hS.keep fun o e => kp a o (by simpa using ne) e) (fun y => by rw [hm, List.take_length]) hl fun c o _ n2 e => kp c o (by simpa using n2) e)
  | succ k ih =>
    intro i s l hk hi0 st sl hS hm hl hR
    refine codeAny_builtin PyProof.Rows.F.entry_set_update_loop ?_
    rw [Around.under_plainId PyProof.Rows.F.plain_set_update_loop _]
    show wpAny _ A.in1 (pyNext (.ref I) >>= _) _ _ s
    refine wpAny_bind (W.item i s _ _ (by omega) ⟨st, sl⟩ fun v h1 tk hv st1 kp => ?_)
    obtain ⟨x, t, hx, rfl⟩ := strs_nth hi (i := i) (v := v) (by rw [Array.getElem?_toList]; exact hv)
    show wpAny _ A.in1 (holding [Value.str x t] (setAdd a (.str x t)) >>= _) _ _ _
    refine wpAny_bind (wpAny_holding ?_)
    unfold setAdd
    refine wpAny_holding (wpAny_bind ((strKind P w).pyHash (k := x) (PySem.Froz.is_str _ _) ?_))
    refine ss_add (s := { s with heap := h1, toks := tk + 1 }) (l := l) (hS.keep fun o e => kp a o (by simpa using ne) e) (by omega) fun h2 l2 b hS2 hm2 hl2 kp2 => ?_
    have st2 := W.frame (i + 1) h1 h2 st1 fun b hb o e => kp2 b o (by
      rcases List.mem_cons.mp hb with z | z
      · rw [z]
        exact Ne.symm ne
      · rw [List.mem_singleton.mp z]
        exact Ne.symm na) e
    refine wpAny_pure ⟨plainId_quiet PyProof.Rows.F.plain_set_update_loop _, ih (i + 1) { s with heap := h2, toks := tk + 1 } l2 (by omega) (by omega) st2.1 st2.2 hS2 (fun y => ?_) (by omega) fun h3 tk3 l3 hS3 hm3 hl3 kp3 => ?_⟩
    · rw [hm2, hm, List.take_add_one, hx]
      show _ ↔ y ∈ xs.take i ++ [x]
      rw [List.mem_append, List.mem_singleton]
      exact Or.comm
    · exact hR h3 tk3 l3 hS3 hm3 hl3 fun d o n1 n2 e => kp3 d o n1 n2 (kp2 d o n1 (kp d o (by simpa using n2) e))
theorem call_setSl {l : Addr} {items : Array Value} {xs : List Str} {Q : Value → Shared → Prop} (hh : A.handled = none) (hl : s.heap.IsList l items) (hit : StrsAre items.toList xs) (hz : xs.length + 1 < scanBound)
    (h : ∀ (h' : Heap) (tk : Nat) (L : List Str), SsAt P w h' s.heap.objs.size L → (∀ y, y ∈ L ↔ y ∈ xs) → L.length ≤ xs.length → (∀ b o, s.heap.get? b = some o → h'.get? b = some o) → Q (.ref s.heap.objs.size) { s with heap := h', toks := tk }) :
    wpAny (model P w) A (call (.type "set") [.ref l]) Q E s := by
  have isz : items.size = xs.length := by
    have e := StrsAre.len_eq hit
    rw [Array.length_toList] at e
    exact e
  obtain ⟨c, tl, hmro⟩ := PySem.F.called_set.mro
  have cm := PySem.F.called_set.made
  have cs := PySem.F.called_set.sub
  refine wpAny_call (codeAny_of_tree ?_)
  show wpAny _ _ (callAny (.type "set") _) _ _ _
  refine wpAny_pure ⟨Code.quiet_builtin _ (by decide +kernel), codeAny_builtin PySem.F.entry_type_call ?_⟩
  rw [Around.under_plain (weight_type_call_type "set" [.ref l] []) rfl]
  have cn := PySem.F.called_set.notType
  have cc := PySem.F.called_set.canCreate
  have ct := PySem.F.typeCall_set_1 (.ref l)
  repeat (any_goals (first | assumption | wp_step))
  refine codeAny_mono (code_set_led1 (.ref l) (E := E) (Q₁ := fun u s1 => u = .ref s.heap.objs.size ∧ s1 = { s with heap := s.heap.push (frS w) }) ⟨rfl, rfl⟩) fun r s1 hr => ?_
  match r, hr with
  | .error e, hr => exact hr
  | .ok .next, hr => exact hr.elim
  | .ok .brk, hr => exact hr.elim
  | .ok .cont, hr => exact hr.elim
  | .ok (.ret u), hr =>
    obtain ⟨rfl, rfl⟩ := hr
    have at0 : (s.heap.push (frS w)).get? s.heap.objs.size = some (frS w) := Heap.get?_push_size _ rfl
    have ty0 : Shared.TypeIs { s with heap := s.heap.push (frS w) } (.ref s.heap.objs.size) "set" := ⟨_, at0, rfl⟩
    have il := PySem.F.called_set.init.lookup
    have ib := PySem.F.called_set.init.bind (.ref s.heap.objs.size)
    repeat (any_goals (first | assumption | wp_step))
    refine codeAny_mono (codeAny_call_builtin (R := wants (fun r s2 => r = .none ∧ ∃ h' tk L, s2 = { s with heap := h', toks := tk } ∧ SsAt P w h' s.heap.objs.size L ∧ (∀ y, y ∈ L ↔ y ∈ xs) ∧ L.length ≤ xs.length ∧
        (∀ b o, s.heap.get? b = some o → h'.get? b = some o)) E) PySem.F.called_set.init.plain PySem.F.entry_set_init (check_set_init_1 ty0 ?_)) fun r2 s2 h2 => ?_
    · obtain ⟨ol, e1, e2, n, e3⟩ := id hl
      obtain ⟨oc, od, odt, osl⟩ := ol
      simp only at e2 e3
      subst e2
      subst e3
      have at1 : (s.heap.push (frS w)).get? l = some { cls := .type "list", dict := od, data := .seq items n, slots := osl } := Heap.get?_push_of_some _ e1
      have f1 := PySem.F.sub_list_set
      have f2 := PySem.F.sub_list_frozenset
      have f3 : (Value.type "list" == Value.type "dict") = false := by decide
      have hl1 : (s.heap.push (frS w)).IsList l items := ⟨_, at1, rfl, n, rfl⟩
      unfold Builtin.«set.__init__» noKeywords Builtin.Frozenset.updateFrom
      generalize hPI : pyIter = PI
      wp_walk
      subst hPI
      refine wpAny_pyIter_list hl1 ?_
      refine wpAny_bind (wpAny_runValue ?_)
      have lt := Heap.lt_size e1
      have sz1 : (s.heap.push (frS w)).objs.size = s.heap.objs.size + 1 := Heap.size_push ..
      have calm : A.in1.in1.in1.handled = none := by simp [hh]
      have nl : l ≠ (s.heap.push (frS w)).objs.size := by rw [sz1]; exact Nat.ne_of_lt (Nat.lt_succ_of_lt lt)
      refine sl_loop (I := (s.heap.push (frS w)).objs.size) (ax := l) (items := items) calm (by rw [sz1]; exact Nat.ne_of_lt (Nat.lt_succ_self _)) (Nat.ne_of_gt lt) nl hit isz hz (xs.length - 0) 0 _ [] rfl (Nat.zero_le _) ⟨_, Heap.get?_push_size _ rfl, rfl, rfl⟩ (hl1.push _) (ss_fresh (Heap.get?_push_of_some _ at0))
        (fun y => ⟨fun z => (by cases z), fun z => (by simp at z)⟩) (Nat.le_refl _) fun h' tk L hS hm hL kp => ?_
      show wpAny _ _ _ _ _ _
      refine wpAny_pure ?_
      show wpAny _ _ (ret Value.none) _ _ _
      refine wpAny_pure ⟨rfl, h', tk, L, rfl, hS, hm, hL, fun b o e => ?_⟩
      have lt := Heap.lt_size e
      exact kp b o (Nat.ne_of_lt lt) (by rw [sz1]; exact Nat.ne_of_lt (Nat.lt_succ_of_lt lt)) (Heap.get?_push_of_some _ (Heap.get?_push_of_some _ e))
    · match r2, h2 with
      | .error e, h2 => exact h2
      | .ok .next, h2 => exact h2.elim
      | .ok .brk, h2 => exact h2.elim
      | .ok .cont, h2 => exact h2.elim
      | .ok (.ret r), h2 =>
        obtain ⟨rfl, h', tk, L, rfl, hS, hm, hL, kp⟩ := h2
        repeat (any_goals (first | assumption | wp_step))
        exact h _ _ _ hS hm hL kp
end
def rSetSl (K : PySem.W.Frag) (P : Program) (w : World) : List V → Hp → VK → Prop := fun vs H Q => ∃ (l : Addr) (xs : List Str), vs = [.ref l] ∧ SqL K H l (xs.map V.str) ∧ xs.length + 1 < scanBound ∧
  ∀ (p : Addr) (L : List Str), H p = none → (∀ y, y ∈ L ↔ y ∈ xs) → L.Nodup → L.length ≤ xs.length → Q (.ref p) (upd H p (SsO P w p L))
section
variable {X : Cx}
theorem cr_setSl (hc : X.calm = true) : CallR X (.type "set") (rSetSl X.K X.prog X.w) := by
  intro pins s σ H xs us Q I r h
  obtain ⟨l, ys, rfl, hl, hz, q⟩ := h
  rw [Vals.ref1 r]
  obtain ⟨its, rv, pl, _⟩ := I.list hl
  refine call_setSl (xs := ys) (I.ok.hd hc) pl.isList (by simpa using strsAre_of rv) hz fun h' tk L hS hm hL kp => ?_
  exact ⟨.ref s.heap.objs.size, _, I.laid (t' := tk) kp (Nat.le_refl _) (ssO_ok hS), rfl, q _ L (I.hok.fresh (Nat.le_refl _)) hm (let ⟨_, _, _, nd, _⟩ := hS; nd) hL⟩
end
end Rz

namespace Rz
open PySem PySem.Spec PyProof.Rows L2
/-! ### sorted(xs, key=len) of texts, equal lengths in their order -/
/-- the key of v is k, whatever stands in the heap -/
def GivesK (P : Program) (w : World) (A : Around) (f v : Value) (k : Int) : Prop :=
  ∀ s : Shared, wpAny (model P w) A (call f [v]) (fun u s2 => ∃ t tk, u = .int k t ∧ s2 = { s with toks := tk }) (fun _ _ => False) s
section
variable {P : Program} {w : World} {A : Around} {E : Value → Shared → Prop} {s : Shared} {a d : Addr} {us : List Value} {kz : List Int} {ka : Array Value} {e0 e1 : Nat} {R : PySem.Fin → Shared → Prop}
theorem ka_size (ik : IntsAre ka.toList kz) (len : kz.length = us.length) : ka.size = us.length := by
  have q := ik.length
  rw [Array.length_toList] at q
  omega
theorem kz_size (ik : IntsAre ka.toList kz) (len : kz.length = us.length) : (ka.zip us.toArray).size = us.length := by
  rw [Array.size_zip, ka_size ik len, List.size_toArray, Nat.min_self]
theorem kl_tail {z : SortSt} (hd : s.heap.get? d = some (seqObj "list" ka e0)) (ha : s.heap.get? a = some (seqObj "list" #[] e1)) (ne : d ≠ a) (ik : IntsAre ka.toList kz) (len : kz.length = us.length) (fit : us.length ≤ sizeLine)
    (hp : (arrOf z).Perm (ka.zip us.toArray)) (so : SortedTo (arrOf z) (arrOf z).size) (hf : failedOf z = none) (sb : Stable intKind (arrOf z) (ka.zip us.toArray))
    (k : ∀ g out c, g.get? a = some (seqObj "list" out c) → (∀ b o, b ≠ d → b ≠ a → s.heap.get? b = some o → g.get? b = some o) → KskOutSt false kz us out.toList → R (.done (.ret .none)) { s with heap := g }) :
    wpAny (model P w) A (ksk_tail a false e1 (.ref d) z) R E s := by
  have ks := ka_size ik len
  have as : (arrOf z).size = us.length := by rw [hp.size_eq, kz_size ik len]
  have b1 := Heap.SameBut.update s.heap d (Obj.mapSeq fun _ => (#[] : Array Value))
  have a1 := (b1.2 a ne.symm).trans ha
  have b2 := Heap.SameBut.update (s.heap.update d (Obj.mapSeq fun _ => (#[] : Array Value))) a (Obj.mapSeq fun _ => (arrOf z).map (·.2))
  have a2 := get?_update_seq a1 fun _ => (arrOf z).map (·.2)
  unfold ksk_tail
  try dsimp only
  have fit2 := fit
  rw [sizeLine_eq] at fit2
  refine wpAny_bind (listUpdate_at hd rfl ?_ (by rw [ks, sizeLine_eq]; omega) (Nat.zero_le _))
  refine wpAny_bind (wpAny_letGo (wpAny_bind (seqEpoch_at a1 rfl ?_)))
  refine wpAny_bind (listUpdate_at a1 rfl ?_ (Nat.zero_le _) (by
    show (if false = true then _ else (arrOf z).map (·.2)).size ≤ _
    rw [if_neg (by decide), Array.size_map, as, sizeLine_eq]
    omega))
  rw [hf]
  simp only [bne_self_eq_false, Bool.false_eq_true, if_false]
  exact wpAny_pure (k _ _ _ a2 (fun b o n1 n2 q => (b2.2 b n2).trans ((b1.2 b n1).trans q)) (ksk_outSt (b := false) ik hp so sb))
theorem kl_end (hd : s.heap.get? d = some (seqObj "list" ka e0)) (ha : s.heap.get? a = some (seqObj "list" #[] e1)) (ne : d ≠ a) (ik : IntsAre ka.toList kz) (len : kz.length = us.length) (fit : us.length ≤ sizeLine)
    (k : ∀ g out c, g.get? a = some (seqObj "list" out c) → (∀ b o, b ≠ d → b ≠ a → s.heap.get? b = some o → g.get? b = some o) → KskOutSt false kz us out.toList → R (.done (.ret .none)) { s with heap := g }) :
    wpAny (model P w) A (ksk_end a false us.toArray e1 (.ref d) ka) R E s := by
  have zs := kz_size ik len
  have pass : ∀ t : Sem PySem.Fin, wpAny (model P w) A t R E s → wpAny (model P w) A (if false = true then (do let _ ← rule "list.sort.reverse"; t) else t) R E s := fun t q => by
    rw [if_neg (by decide)]
    exact q
  unfold ksk_end
  try dsimp only
  refine pass _ ?_
  by_cases few : us.toArray.size < 2
  · rw [if_pos few, if_pos few]
    refine wpAny_bind (wpAny_pure ?_)
    rw [StateT.run_pure]
    refine wpAny_bind (wpAny_pure ?_)
    try dsimp only
    refine kl_tail (z := SortSt.mk' general' (ka.zip us.toArray) #[] 7 none) hd ha ne ik len fit (Array.Perm.refl _) ?_ rfl (Stable.refl _) k
    intro i j ij hj
    have hj2 : j < (ka.zip us.toArray).size := hj
    rw [zs] at hj2
    rw [List.size_toArray] at few
    obtain rfl : i = j := by omega
    exact Int.le_refl _
  · rw [if_neg few, if_neg few]
    rw [List.size_toArray] at few
    rw [ksk_kind ik (by rw [ka_size ik len]; omega)]
    refine wpAny_bind (wpAny_pure ?_)
    refine wpAny_bind (wpAny_mono (wpS_sortRunsSt (κ := intKind) (a₀ := ka.zip us.toArray) (st := SortSt.mk' oneType' (ka.zip us.toArray) #[] 7 none)
      (Q := fun _ z => (arrOf z).Perm (ka.zip us.toArray) ∧ failedOf z = none ∧ SortedTo (arrOf z) (arrOf z).size ∧ Stable intKind (arrOf z) (ka.zip us.toArray))
      intKind_oneLt (ksk_keysOfInt (ksk_intKeys ik)) ⟨Array.Perm.refl _, rfl, rfl⟩ rfl (Stable.refl _) (by rw [zs]; omega) fun z q1 q2 q3 q4 => ⟨q1, q2, by rw [q1.size_eq]; exact sortedTo_of_int q3, q4⟩) ?_ fun _ _ e => e)
    rintro ⟨⟨⟩, z⟩ s2 ⟨rfl, q1, q2, q3, q4⟩
    try dsimp only
    exact kl_tail hd ha ne ik len fit q1 q3 q2 q4 k
theorem kl_rest {f : Value} (hd : s.heap.get? d = some (seqObj "list" #[] 0)) (ha : s.heap.get? a = some (seqObj "list" #[] e1)) (ne : d ≠ a) (len : kz.length = us.length) (fit : us.length ≤ sizeLine)
    (turn : ∀ (i : Nat) (v : Value) (n : Int), us[i]? = some v → kz[i]? = some n → GivesK P w A f v n)
    (k : ∀ g tk out c, g.get? a = some (seqObj "list" out c) → (∀ b o, b ≠ d → b ≠ a → s.heap.get? b = some o → g.get? b = some o) → KskOutSt false kz us out.toList → R (.done (.ret .none)) { s with heap := g, toks := tk }) :
    wpAny (model P w) A (ksk_rest a f false us.toArray e1 (.ref d)) R E s := by
  unfold ksk_rest
  refine wpAny_bind (wpAny_rule ?_)
  rw [← Array.forIn_toList]
  simp only [List.toList_toArray]
  refine wpAny_bind (ksk_fold (fun i s2 => ∃ g tk ka e, s2 = { s with heap := g, toks := tk } ∧ g.get? d = some (seqObj "list" ka e) ∧ g.get? a = some (seqObj "list" #[] e1) ∧ (∀ b o, b ≠ d → b ≠ a → s.heap.get? b = some o → g.get? b = some o) ∧ IntsAre ka.toList (kz.take i)) us 0 s
    ⟨s.heap, s.toks, #[], 0, rfl, hd, ha, fun _ _ _ _ q => q, by simpa using IntsAre.nil⟩ ?turn ?fin)
  case turn =>
    rintro j x s2 hx ⟨g, tk, ka, e, rfl, gd, ga, gk, ik⟩
    simp only [Nat.zero_add] at ik ⊢
    have hj : j < us.length := (List.getElem?_eq_some_iff.mp hx).1
    have hn : kz[j]? = some kz[j] := List.getElem?_eq_getElem (by omega)
    generalize kz[j] = n at hn
    have sz : ka.size ≤ us.length := by
      have q := ik.length
      rw [Array.length_toList, List.length_take] at q
      omega
    have fit2 := fit
    rw [sizeLine_eq] at fit2
    refine wpAny_bind (wpAny_attempt (wpAny_mono (turn j x n hx hn { s with heap := g, toks := tk }) (fun v s3 he => ?_) fun _ _ q => q.elim))
    obtain ⟨t2, tk2, rfl, rfl⟩ := he
    try dsimp only
    have b1 := Heap.SameBut.update g d (Obj.mapSeq (·.push (.int n t2)))
    have d2 := get?_update_seq gd (·.push (.int n t2))
    refine wpAny_bind (listUpdate_at gd rfl ?_ (by rw [sizeLine_eq]; omega) (by rw [Array.size_push, sizeLine_eq]; omega))
    refine wpAny_pure ⟨rfl, _, _, ka.push (.int n t2), _, rfl, d2, (b1.2 a ne.symm).trans ga, fun b o n1 n2 q => (b1.2 b n1).trans (gk b o n1 n2 q), ?_⟩
    rw [Array.toList_push, List.take_add_one, hn]
    exact ksk_snoc ik
  case fin =>
    rintro s2 ⟨g, tk, ka, e, rfl, gd, ga, gk, ik⟩
    have ik2 : IntsAre ka.toList kz := by
      rw [List.take_of_length_le (by omega)] at ik
      exact ik
    try dsimp only
    refine wpAny_bind (listItems_at gd rfl ?_)
    exact kl_end (s := { s with heap := g, toks := tk }) gd ga ne ik2 len fit fun g2 out c q1 q2 q3 => k g2 tk out c q1 (fun b o n1 n2 q => q2 b o n1 n2 (gk b o n1 n2 q)) q3
theorem kl_sort {f : Value} {n : Nat} (ho : s.heap.get? a = some (seqObj "list" us.toArray n)) (len : kz.length = us.length) (fit : us.length ≤ sizeLine) (turn : ∀ (i : Nat) (v : Value) (n : Int), us[i]? = some v → kz[i]? = some n → GivesK P w A f v n)
    (k : ∀ g tk out c, g.get? a = some (seqObj "list" out c) → (∀ b o, b ≠ a → s.heap.get? b = some o → g.get? b = some o) → KskOutSt false kz us out.toList → R (.done (.ret .none)) { s with heap := g, toks := tk }) :
    wpAny (model P w) A (ksk_tree a f false) R E s := by
  have fit2 := fit
  rw [sizeLine_eq] at fit2
  have lt := Heap.lt_size ho
  have b1 := Heap.SameBut.update s.heap a (Obj.mapSeq fun _ => (#[] : Array Value))
  have a1 := get?_update_seq ho fun _ => (#[] : Array Value)
  have sz1 : ((s.heap.update a (Obj.mapSeq fun _ => (#[] : Array Value))).push (seqObj "tuple" us.toArray 0)).objs.size = s.heap.objs.size + 1 := by rw [size_push', Heap.size_update]
  unfold ksk_tree
  refine wpAny_bind (listItems_at ho rfl ?_)
  refine wpAny_bind (listUpdate_at ho rfl ?_ (by rw [List.size_toArray, sizeLine_eq]; omega) (Nat.zero_le _))
  refine wpAny_bind (seqEpoch_at a1 rfl ?_)
  refine wpAny_bind (wpAny_newTuple ?_ (by show us.length ≤ _; exact fit))
  refine wpAny_bind (wpAny_newList (wpAny_holding ?_) (Nat.zero_le _))
  refine kl_rest (s := { s with heap := ((s.heap.update a (Obj.mapSeq fun _ => (#[] : Array Value))).push (seqObj "tuple" us.toArray 0)).push (seqObj "list" #[] 0) }) (d := ((s.heap.update a (Obj.mapSeq fun _ => (#[] : Array Value))).push (seqObj "tuple" us.toArray 0)).objs.size)
    (Heap.get?_push_size _ rfl) (Heap.get?_push_of_some _ (Heap.get?_push_of_some _ a1)) (by rw [sz1]; exact Nat.ne_of_gt (Nat.lt_succ_of_lt lt)) len fit turn fun g tk out c q1 q2 q3 => k g tk out c q1 (fun b o n1 q => ?_) q3
  exact q2 b o (by rw [sz1]; exact Nat.ne_of_lt (Nat.lt_succ_of_lt (Heap.lt_size q))) n1 (Heap.get?_push_of_some _ (Heap.get?_push_of_some _ ((b1.2 b n1).trans q)))
theorem kl_sorted {l : Addr} {f : Value} {kw : List (Str × Value)} {Q : Value → Shared → Prop} (hl : s.heap.IsList l us.toArray) (len : kz.length = us.length) (fit : us.length ≤ sizeLine)
    (g1 : argsOk "sorted" ⟨[.ref l], kw⟩) (g2 : ∀ x, argsOk "list.sort" ⟨[.ref x], kw⟩) (ht : ∀ x, Builtin.«list.sort» ⟨[.ref x], kw⟩ = ksk_tree x f false)
    (turn : ∀ (i : Nat) (v : Value) (n : Int), us[i]? = some v → kz[i]? = some n → GivesK P w A.in1.in1 f v n)
    (k : ∀ D g tk out c, s.heap.objs.size ≤ D → g.get? D = some (seqObj "list" out c) → (∀ b o, s.heap.get? b = some o → g.get? b = some o) → KskOutSt false kz us out.toList → Q (.ref D) { s with heap := g, toks := tk }) :
    wpAny (model P w) A (call (.builtin "sorted") [.ref l] kw) Q E s := by
  refine call_function_entry_kw kind_sorted plain_sorted entry_sorted g1 ?_
  unfold Builtin.«sorted»
  refine wpAny_bind (m := checkCount "sorted" 1 1 _) (wpAny_pure ?_)
  refine wpAny_bind (collect_list hl ?_ fit)
  refine wpAny_bind (wpAny_newList ?_ fit)
  have sz1 : ((s.heap.push (seqObj "list" #[] 0)).update s.heap.objs.size (Obj.mapSeq (· ++ us.toArray))).objs.size = s.heap.objs.size + 1 := by rw [Heap.size_update, size_push']
  have hL := Heap.get?_push_size ((s.heap.push (seqObj "list" #[] 0)).update s.heap.objs.size (Obj.mapSeq (· ++ us.toArray))) (o := seqObj "list" us.toArray 0) rfl
  rw [sz1] at hL
  have old : ∀ b o, s.heap.get? b = some o → b ≠ s.heap.objs.size + 1 ∧ (((s.heap.push (seqObj "list" #[] 0)).update s.heap.objs.size (Obj.mapSeq (· ++ us.toArray))).push (seqObj "list" us.toArray 0)).get? b = some o := fun b o q => by
    have lt := Heap.lt_size q
    refine ⟨Nat.ne_of_lt (Nat.lt_succ_of_lt lt), Heap.get?_push_of_some _ ?_⟩
    rw [Heap.get?_update_ne _ _ _ _ (Nat.ne_of_lt lt)]
    exact Heap.get?_push_of_some _ q
  show wpAny _ _ _ _ _ { s with heap := ((s.heap.push (seqObj "list" #[] 0)).update s.heap.objs.size (Obj.mapSeq (· ++ us.toArray))).push (seqObj "list" us.toArray 0) }
  rw [sz1]
  refine wpAny_bind (wpAny_holding (wpAny_call_entry_kw slot_list_sort ⟨_, hL, rfl⟩ entry_list_sort ?_ (g2 _)))
  show wpAny (model P w) A.in1.in1 (Builtin.«list.sort» ⟨[.ref (s.heap.objs.size + 1)], kw⟩) _ _ _
  rw [ht]
  refine kl_sort (s := { s with heap := ((s.heap.push (seqObj "list" #[] 0)).update s.heap.objs.size (Obj.mapSeq (· ++ us.toArray))).push (seqObj "list" us.toArray 0) }) hL len fit turn fun g tk out c q1 q2 q3 => ⟨_, rfl, ?_⟩
  exact wpAny_pure ⟨_, rfl, k _ g tk out c (Nat.le_succ _) q1 (fun b o q => q2 b o (old b o q).1 (old b o q).2) q3⟩
end
/-- the texts ordered by length, those of one length in their order -/
def ByLen (xs ys : List Str) : Prop := ys.Perm xs ∧ ys.Pairwise (fun x y => x.length ≤ y.length) ∧ ∀ n : Nat, ys.filter (fun x => x.length == n) = xs.filter (fun x => x.length == n)
theorem strs_zip : ∀ {us : List Value} {xs : List Str}, StrsAre us xs → ∀ p ∈ (xs.map fun x => (x.length : Int)).zip us, ∃ x t, p = ((x.length : Int), Value.str x t)
  | _, _, .nil, p, h => by simp at h
  | _, _, .cons k t r, p, h => by
    rcases List.mem_cons.mp h with z | z
    · exact ⟨k, t, z⟩
    · exact strs_zip r p z
theorem strs_nth2 : ∀ {us : List Value} {xs : List Str} {i : Nat} {v : Value}, StrsAre us xs → us[i]? = some v → ∃ k t, xs[i]? = some k ∧ v = .str k t
  | _, _, i, v, .nil, h => by cases h
  | _, _, 0, v, .cons k t r, h => ⟨k, t, rfl, (Option.some.inj h).symm⟩
  | _, _, i + 1, v, .cons k t r, h => strs_nth2 (i := i) r (by simpa using h)
def strV : Value → Str
  | .str x _ => x
  | _ => Str.empty
theorem strs_back : ∀ {us : List Value} {xs : List Str}, StrsAre us xs → us.map strV = xs
  | _, _, .nil => rfl
  | _, _, .cons k t r => congrArg (k :: ·) (strs_back r)
theorem strs_zipV : ∀ {us : List Value} {xs : List Str}, StrsAre us xs → ((xs.map fun x => (x.length : Int)).zip us).map (fun p => strV p.2) = xs
  | _, _, .nil => rfl
  | _, _, .cons k t r => congrArg (k :: ·) (strs_zipV r)
theorem strs_pairs : ∀ {ps : List (Int × Value)}, (∀ p ∈ ps, ∃ x t, p = ((Str.length x : Int), Value.str x t)) → StrsAre (ps.map Prod.snd) (ps.map fun p => strV p.2)
  | [], _ => .nil
  | p :: ps, h => by
    obtain ⟨x, t, rfl⟩ := h p List.mem_cons_self
    exact .cons x t (strs_pairs fun q hq => h q (List.mem_cons_of_mem _ hq))
theorem filt_len : ∀ {ps : List (Int × Value)} (n : Nat), (∀ p ∈ ps, ∃ x t, p = ((Str.length x : Int), Value.str x t)) → (ps.map fun p => strV p.2).filter (fun x => x.length == n) = (ps.filter fun p => p.1 == (n : Int)).map fun p => strV p.2
  | [], _, _ => rfl
  | p :: ps, n, h => by
    obtain ⟨x, t, rfl⟩ := h p List.mem_cons_self
    have ih := filt_len n fun q hq => h q (List.mem_cons_of_mem _ hq)
    rw [List.map_cons, List.filter_cons, List.filter_cons]
    show (if (x.length == n) = true then x :: _ else _) = _
    by_cases e : x.length = n
    · have e2 : (((x.length : Int), Value.str x t).1 == (n : Int)) = true := by
        show ((x.length : Int) == (n : Int)) = true
        rw [e, beq_iff_eq]
      rw [if_pos (by rw [e, beq_iff_eq]), if_pos e2, ih]
      rfl
    · have e2 : ¬ (((x.length : Int), Value.str x t).1 == (n : Int)) = true := by
        show ¬ ((x.length : Int) == (n : Int)) = true
        rw [beq_iff_eq]
        omega
      rw [if_neg (by rw [beq_iff_eq]; exact e), if_neg e2, ih]
theorem byLen_of {us : List Value} {xs : List Str} {out : List Value} (hi : StrsAre us xs) (o : KskOutSt false (xs.map fun x => (x.length : Int)) us out) : ∃ ys, StrsAre out ys ∧ ByLen xs ys := by
  obtain ⟨ps, h1, rfl, h3, h4⟩ := o
  have hz := strs_zip hi
  have hp : ∀ p ∈ ps, ∃ x t, p = ((Str.length x : Int), Value.str x t) := fun p hp => hz p (h1.mem_iff.mp hp)
  refine ⟨_, strs_pairs hp, ?_, ?_, fun n => ?_⟩
  · have q := h1.map fun p => strV p.2
    rw [strs_zipV hi] at q
    exact q
  · rw [List.pairwise_map]
    refine List.Pairwise.imp_of_mem (fun {p q} m1 m2 r => ?_) h3
    obtain ⟨x, t, rfl⟩ := hp p m1
    obtain ⟨y, u, rfl⟩ := hp q m2
    have r2 : (x.length : Int) ≤ y.length := r
    show x.length ≤ y.length
    omega
  · rw [filt_len n hp, h4, ← filt_len n hz, strs_zipV hi]
/-- sorted(xs, key=len) -/
def tSortLen (K : PySem.W.Frag) (ta : TA) : TE := fun σ H Q => ta σ H fun vs H1 => ∃ (l : Addr) (xs : List Str), vs = [.ref l] ∧ SqL K H1 l (xs.map V.str) ∧ (∀ x ∈ xs, x.length ≤ sizeLine) ∧ ∀ (p : Addr) (ys : List Str), H1 p = none → ByLen xs ys → Q (.ref p) (upd H1 p (.lst (ys.map V.str)))
section
variable {X : Cx}
theorem gives_len {P : Program} {w : World} {A : Around} {x : Str} {t : Tok} (h : x.length ≤ sizeLine) : GivesK P w A (.builtin "len") (.str x t) (x.length : Int) := fun s => by
  refine PySem.P.len_str (by rw [sizeLine_eq] at h; omega) ⟨_, _, rfl, rfl⟩
theorem pe_sortLen {a : Expr} {ta : TA} {p kp lp pos : Pos} (hg : Gl X "sorted") (hm : X.mg "sorted" = none) (lg : Gl X "len") (lm : X.mg "len" = none) (ha : PA X [a] ta)
    (he : backTo pos (starEach [a] X.env) = (false, eval a X.env) :: backTo pos (starEach [] X.env) := by rfl) (hpl : (backTo pos (starEach [a] X.env)).any (·.1) = false := by rfl)
    (hall : (backToKw pos (keywordEach [⟨some "key", .Name "len" lp, kp⟩] X.env)).all (·.1.isSome) = true := by rfl) (hnone : (backToKw pos (keywordEach [⟨some "key", .Name "len" lp, kp⟩] X.env)).any (·.1.isNone) = false := by rfl) :
    PE X (.Call (.Name "sorted" p) [a] [⟨some "key", .Name "len" lp, kp⟩] pos) (tSortLen X.K ta) := by
  refine ⟨fun pins s σ H Q I h => ?_⟩
  refine wpAny_Call_Name_kw (ld_blt (u := .builtin "sorted") I hg hm (by decide +kernel) ?_)
  refine PyProof.Rows.callWith_kw (thn (ha.run pos pins s σ H _ I h) fun us s1 ⟨vs, H1, I1, r1, l, xs, e1, hl, hx, q⟩ => ?_) he hpl hall hnone
  subst e1
  rw [Vals.ref1 r1]
  show wpAny _ _ (evalAll ((do let v ← eval (.Name "len" lp) X.env; standAt pos; pure v) :: [])) _ _ s1
  refine wpAny_evalAll_cons (wpAny_bind (ld_blt (u := .builtin "len") I1 lg lm (by decide +kernel) (wpAny_bind (wpAny_standAt (wpAny_pure ?_)))))
  refine wpAny_evalAll_nil ?_
  obtain ⟨its, rv, pl, hz⟩ := I1.list hl
  have hi := strsAre_of rv
  have ln : (xs.map fun x => (x.length : Int)).length = its.length := by rw [List.length_map, StrsAre.len_eq hi]
  have hz2 : its.length ≤ sizeLine := by rw [← rv.length]; exact hz
  show wpAny _ _ (call (.builtin "sorted") [.ref l] [(Str.ofString "key", .builtin "len")]) _ _ _
  refine kl_sorted (kz := xs.map fun x => (x.length : Int)) pl.isList ln hz2 (PyProof.Rows.ksk_s1 _ _) (fun _ => PyProof.Rows.ksk_l1 _ _) (fun _ => rfl) (fun i v n hv hn => ?_) fun D g tk out c hD hg kp ho => ?_
  · obtain ⟨x, t, hx2, rfl⟩ := strs_nth2 hi hv
    rw [List.getElem?_map, hx2] at hn
    cases hn
    exact gives_len (hx x (List.mem_of_getElem? hx2))
  · obtain ⟨ys, hy, by_⟩ := byLen_of hi ho
    have hn : H1 D = none := I1.hok.fresh hD
    have hlen : (ys.map V.str).length ≤ sizeLine := by
      rw [List.length_map, by_.1.length_eq]
      rw [List.length_map] at hz
      exact hz
    exact ⟨.ref D, upd H1 D (.lst (ys.map V.str)), I1.laid (t' := tk) kp hD ⟨hlen, out.toList, c, vals_of_strs hy, hg⟩, rfl, q D ys hn by_⟩
end
end Rz

namespace Rz
open PySem PySem.Spec PyProof.Rows L2
/-! ### a walk over a tuple, a list, a range, whatever its turn asks -/
theorem wk_tup {K : PySem.W.Frag} {a : Addr} {xs : List V} {H0 : Hp} {Qd : Hp → Prop} {Bd : V → Hp → (Hp → Prop) → Prop} (Pv : Nat → Hp → Prop) (h0 : Pv 0 H0) (hl : ∀ i H, i ≤ xs.length → Pv i H → SqT K H a xs)
    (hs : ∀ i x H, xs[i]? = some x → Pv i H → Bd x H (Pv (i + 1))) (hd : ∀ H, Pv xs.length H → Qd H) :
    ∃ W : Nat → Nat → Hp → Prop, (∃ m, W 0 m H0) ∧ ∀ i m H, W i m H → ((Itt K a).stop i H ∧ Qd H) ∨ ((Itt K a).go i H ∧ ∃ Nx : Hp → Prop, (∀ H', Nx H' → ∃ m', m' < m ∧ W (i + 1) m' H') ∧ ∀ x H', (Itt K a).yld i H x H' → Bd x H' Nx) := by
  refine ⟨fun i m H => m = xs.length - i ∧ i ≤ xs.length ∧ Pv i H, ⟨_, rfl, Nat.zero_le _, h0⟩, ?_⟩
  rintro i m H ⟨rfl, hi, p⟩
  have q := hl i H hi p
  rcases Nat.lt_or_ge i xs.length with lt | ge
  · refine .inr ⟨⟨xs, xs[i], q, by simp [lt]⟩, Pv (i + 1), fun H2 p2 => ⟨xs.length - (i + 1), by omega, rfl, lt, p2⟩, fun x H2 y => ?_⟩
    obtain ⟨rfl, y⟩ := y
    exact hs i x _ (y xs q) p
  · obtain rfl : i = xs.length := by omega
    exact .inl ⟨⟨xs, q, Nat.le_refl _⟩, hd H p⟩
theorem wk_list {K : PySem.W.Frag} {a : Addr} {xs : List V} {H0 : Hp} {Qd : Hp → Prop} {Bd : V → Hp → (Hp → Prop) → Prop} (Pv : Nat → Hp → Prop) (h0 : Pv 0 H0) (hl : ∀ i H, i ≤ xs.length → Pv i H → SqL K H a xs)
    (hs : ∀ i x H, xs[i]? = some x → Pv i H → Bd x H (Pv (i + 1))) (hd : ∀ H, Pv xs.length H → Qd H) :
    ∃ W : Nat → Nat → Hp → Prop, (∃ m, W 0 m H0) ∧ ∀ i m H, W i m H → ((Itl K a).stop i H ∧ Qd H) ∨ ((Itl K a).go i H ∧ ∃ Nx : Hp → Prop, (∀ H', Nx H' → ∃ m', m' < m ∧ W (i + 1) m' H') ∧ ∀ x H', (Itl K a).yld i H x H' → Bd x H' Nx) := by
  refine ⟨fun i m H => m = xs.length - i ∧ i ≤ xs.length ∧ Pv i H, ⟨_, rfl, Nat.zero_le _, h0⟩, ?_⟩
  rintro i m H ⟨rfl, hi, p⟩
  have q := hl i H hi p
  rcases Nat.lt_or_ge i xs.length with lt | ge
  · refine .inr ⟨⟨xs, xs[i], q, by simp [lt]⟩, Pv (i + 1), fun H2 p2 => ⟨xs.length - (i + 1), by omega, rfl, lt, p2⟩, fun x H2 y => ?_⟩
    obtain ⟨rfl, y⟩ := y
    exact hs i x _ (y xs q) p
  · obtain rfl : i = xs.length := by omega
    exact .inl ⟨⟨xs, q, Nat.le_refl _⟩, hd H p⟩
theorem wk_range {lo : Int} {n : Nat} {H0 : Hp} {Qd : Hp → Prop} {Bd : V → Hp → (Hp → Prop) → Prop} (Pv : Nat → Hp → Prop) (h0 : Pv 0 H0)
    (hs : ∀ i H, i < n → Pv i H → Bd (.int (lo + i)) H (Pv (i + 1))) (hd : ∀ H, Pv n H → Qd H) :
    ∃ W : Nat → Nat → Hp → Prop, (∃ m, W 0 m H0) ∧ ∀ i m H, W i m H → ((Itr lo n).stop i H ∧ Qd H) ∨ ((Itr lo n).go i H ∧ ∃ Nx : Hp → Prop, (∀ H', Nx H' → ∃ m', m' < m ∧ W (i + 1) m' H') ∧ ∀ x H', (Itr lo n).yld i H x H' → Bd x H' Nx) := by
  refine ⟨fun i m H => m = n - i ∧ i ≤ n ∧ Pv i H, ⟨_, rfl, Nat.zero_le _, h0⟩, ?_⟩
  rintro i m H ⟨rfl, hi, p⟩
  rcases Nat.lt_or_ge i n with lt | ge
  · refine .inr ⟨lt, Pv (i + 1), fun H2 p2 => ⟨n - (i + 1), by omega, rfl, lt, p2⟩, fun x H2 y => ?_⟩
    obtain ⟨rfl, rfl⟩ := y
    exact hs i _ lt p
  · obtain rfl : i = n := by omega
    exact .inl ⟨Nat.le_refl _, hd H p⟩
/-- over whatever walks -/
theorem wk_it {J : It} {n : Nat} {G : Hp → Prop} {Y : Nat → Hp → V → Hp → Prop} (w : Walk J n G Y) {H0 : Hp} {Qd : Hp → Prop} {Bd : V → Hp → (Hp → Prop) → Prop} (Pv : Nat → Hp → Prop) (h0 : Pv 0 H0) (hG : ∀ i H, i ≤ n → Pv i H → G H)
    (hs : ∀ i x H H', i < n → Pv i H → Y i H x H' → Bd x H' (Pv (i + 1))) (hd : ∀ H, Pv n H → Qd H) :
    ∃ W : Nat → Nat → Hp → Prop, (∃ m, W 0 m H0) ∧ ∀ i m H, W i m H → (J.stop i H ∧ Qd H) ∨ (J.go i H ∧ ∃ Nx : Hp → Prop, (∀ H', Nx H' → ∃ m', m' < m ∧ W (i + 1) m' H') ∧ ∀ x H', J.yld i H x H' → Bd x H' Nx) := by
  refine ⟨fun i m H => m = n - i ∧ i ≤ n ∧ Pv i H, ⟨_, rfl, Nat.zero_le _, h0⟩, ?_⟩
  rintro i m H ⟨rfl, hi, p⟩
  have q := hG i H hi p
  rcases Nat.lt_or_ge i n with lt | ge
  · exact .inr ⟨w.goes i H lt q, Pv (i + 1), fun H2 p2 => ⟨n - (i + 1), by omega, rfl, lt, p2⟩, fun x H2 y => hs i x H H2 lt p (w.yields i H x H2 lt q y)⟩
  · obtain rfl : i = n := by omega
    exact .inl ⟨w.stops H q, hd H p⟩
/-- the truth of a name -/
def tTruN (K : PySem.W.Frag) (i : Nat) : TT := fun σ H Q => tVar i σ H fun x H' => ∃ k, TruV K x H' k ∧ Q k H'
end Rz

namespace Rz
open PySem PySem.Spec PyProof.Rows L2
/-! ### set(ns) of a list of ints -/
theorem ints_nth : ∀ {us : List Value} {xs : List Int} {i : Nat} {v : Value}, IntsAre us xs → us[i]? = some v → ∃ k t, xs[i]? = some k ∧ v = .int k t
  | _, _, i, v, .nil, h => by cases h
  | _, _, 0, v, .cons k t r, h => ⟨k, t, rfl, (Option.some.inj h).symm⟩
  | _, _, i + 1, v, .cons k t r, h => ints_nth (i := i) r (by simpa using h)
section
variable {P : Program} {w : World} {A : Around} {E : Value → Shared → Prop} {s : Shared}
theorem call_setIl {l : Addr} {items : Array Value} {ns : List Int} {Q : Value → Shared → Prop} (hh : A.handled = none) (hl : s.heap.IsList l items) (hit : IntsAre items.toList ns) (hz : ns.length + 1 < scanBound)
    (h : ∀ (h' : Heap) (tk c : Nat), SetR w h' s.heap.objs.size (fun j => decide (j ∈ ns)) c → c ≤ ns.length → (∀ b o, s.heap.get? b = some o → h'.get? b = some o) → Q (.ref s.heap.objs.size) { s with heap := h', toks := tk }) :
    wpAny (model P w) A (call (.type "set") [.ref l]) Q E s := by
  have isz : items.size = ns.length := by
    have e := IntsAre.length hit
    rw [Array.length_toList] at e
    exact e
  obtain ⟨c, tl, hmro⟩ := PySem.F.called_set.mro
  have cm := PySem.F.called_set.made
  have cs := PySem.F.called_set.sub
  refine wpAny_call (codeAny_of_tree ?_)
  show wpAny _ _ (callAny (.type "set") _) _ _ _
  refine wpAny_pure ⟨Code.quiet_builtin _ (by decide +kernel), codeAny_builtin PySem.F.entry_type_call ?_⟩
  rw [Around.under_plain (weight_type_call_type "set" [.ref l] []) rfl]
  have cn := PySem.F.called_set.notType
  have cc := PySem.F.called_set.canCreate
  have ct := PySem.F.typeCall_set_1 (.ref l)
  repeat (any_goals (first | assumption | wp_step))
  refine codeAny_mono (code_set_led1 (.ref l) (E := E) (Q₁ := fun u s1 => u = .ref s.heap.objs.size ∧ s1 = { s with heap := s.heap.push (frS w) }) ⟨rfl, rfl⟩) fun r s1 hr => ?_
  match r, hr with
  | .error e, hr => exact hr
  | .ok .next, hr => exact hr.elim
  | .ok .brk, hr => exact hr.elim
  | .ok .cont, hr => exact hr.elim
  | .ok (.ret u), hr =>
    obtain ⟨rfl, rfl⟩ := hr
    have at0 : (s.heap.push (frS w)).get? s.heap.objs.size = some (frS w) := Heap.get?_push_size _ rfl
    have ty0 : Shared.TypeIs { s with heap := s.heap.push (frS w) } (.ref s.heap.objs.size) "set" := ⟨_, at0, rfl⟩
    have il := PySem.F.called_set.init.lookup
    have ib := PySem.F.called_set.init.bind (.ref s.heap.objs.size)
    repeat (any_goals (first | assumption | wp_step))
    refine codeAny_mono (codeAny_call_builtin (R := wants (fun r s2 => r = .none ∧ ∃ h' tk c, s2 = { s with heap := h', toks := tk } ∧ SetR w h' s.heap.objs.size (fun j => decide (j ∈ ns)) c ∧ c ≤ ns.length ∧
        (∀ b o, s.heap.get? b = some o → h'.get? b = some o)) E) PySem.F.called_set.init.plain PySem.F.entry_set_init (check_set_init_1 ty0 ?_)) fun r2 s2 h2 => ?_
    · obtain ⟨ol, e1, e2, n, e3⟩ := id hl
      obtain ⟨oc, od, odt, osl⟩ := ol
      simp only at e2 e3
      subst e2
      subst e3
      have at1 : (s.heap.push (frS w)).get? l = some { cls := .type "list", dict := od, data := .seq items n, slots := osl } := Heap.get?_push_of_some _ e1
      have f1 := PySem.F.sub_list_set
      have f2 := PySem.F.sub_list_frozenset
      have f3 : (Value.type "list" == Value.type "dict") = false := by decide
      have hl1 : (s.heap.push (frS w)).IsList l items := ⟨_, at1, rfl, n, rfl⟩
      unfold Builtin.«set.__init__» noKeywords Builtin.Frozenset.updateFrom
      generalize hPI : pyIter = PI
      wp_walk
      subst hPI
      refine wpAny_pyIter_list hl1 ?_
      refine wpAny_bind (wpAny_runValue ?_)
      have lt := Heap.lt_size e1
      have sz1 : (s.heap.push (frS w)).objs.size = s.heap.objs.size + 1 := Heap.size_push ..
      have calm : A.in1.in1.in1.handled = none := by simp [hh]
      have nl : l ≠ (s.heap.push (frS w)).objs.size := by rw [sz1]; exact Nat.ne_of_lt (Nat.lt_succ_of_lt lt)
      have away : s.heap.objs.size ∉ [(s.heap.push (frS w)).objs.size, l] := by
        rw [sz1]
        simp only [List.mem_cons, List.not_mem_nil, or_false, not_or]
        exact ⟨Nat.ne_of_lt (Nat.lt_succ_self _), Nat.ne_of_gt lt⟩
      have val : ∀ (i : Nat) (v : Value), items[i]? = some v → ∃ k t, ns[i]? = some k ∧ v = .int k t := fun i v hv => ints_nth hit (by rw [Array.getElem?_toList]; exact hv)
      refine set_update_ints ((Walks.list calm _ l nl items).toS) s.heap.objs.size away ns isz hz val (items.size - 0) 0 _ rfl (Nat.zero_le _) ⟨⟨_, Heap.get?_push_size _ rfl, rfl, rfl⟩, (hl1.push _)⟩ ⟨0, Nat.le_refl 0, setR_new_at (Heap.get?_push_of_some _ at0)⟩ fun s3 c mv hc hS => ?_
      obtain ⟨g, g2, d2, tk, o2⟩ := s3
      obtain rfl : g2 = s.gens := mv.gens
      obtain rfl : d2 = s.drawn := mv.drawn
      obtain rfl : o2 = s.os := mv.os
      show wpAny _ _ _ _ _ _
      refine wpAny_pure ?_
      show wpAny _ _ (ret Value.none) _ _ _
      rw [isz] at hc
      refine wpAny_pure ⟨rfl, g, tk, c, rfl, hS, hc, fun b o e => ?_⟩
      have lt := Heap.lt_size e
      refine mv.heap b o (fun z => ?_) (Heap.get?_push_of_some _ (Heap.get?_push_of_some _ e))
      rcases List.mem_cons.mp z with z | z
      · exact Nat.ne_of_lt lt z
      · exact Nat.ne_of_lt (Nat.lt_succ_of_lt lt) (by rw [List.mem_singleton.mp z, sz1])
    · match r2, h2 with
      | .error e, h2 => exact h2
      | .ok .next, h2 => exact h2.elim
      | .ok .brk, h2 => exact h2.elim
      | .ok .cont, h2 => exact h2.elim
      | .ok (.ret r), h2 =>
        obtain ⟨rfl, h', tk, c, rfl, hS, hL, kp⟩ := h2
        repeat (any_goals (first | assumption | wp_step))
        exact h _ _ _ hS hL kp
end
def rSetIl (K : PySem.W.Frag) (w : World) : List V → Hp → VK → Prop := fun vs H Q => ∃ (l : Addr) (ns : List Int), vs = [.ref l] ∧ SqL K H l (ns.map V.int) ∧ ns.length + 1 < scanBound ∧
  ∀ (p : Addr) (c : Nat), H p = none → c ≤ ns.length → Q (.ref p) (upd H p (SetO w p (fun j => decide (j ∈ ns)) c))
section
variable {X : Cx}
theorem cr_setIl (hc : X.calm = true) : CallR X (.type "set") (rSetIl X.K X.w) := by
  intro pins s σ H xs us Q I r h
  obtain ⟨l, ns, rfl, hl, hz, q⟩ := h
  rw [Vals.ref1 r]
  obtain ⟨its, rv, pl, _⟩ := I.list hl
  refine call_setIl (ns := ns) (I.ok.hd hc) pl.isList (by simpa using ints_of_vals rv) hz fun h' tk c hS hL kp => ?_
  exact ⟨.ref s.heap.objs.size, _, I.laid (t' := tk) kp (Nat.le_refl _) (setO_new hS), rfl, q _ c (I.hok.fresh (Nat.le_refl _)) hL⟩
end
end Rz

namespace Rz
open PySem PySem.Spec PyProof.Rows L2
/-! ### x(a, ..) where the local x is the class; C.m() of a class method -/
section
variable {X : Cx} {CX : CXT} {k i : Nat} {f C : Addr} {sp : Sp} {E : EX} {x m : Str} {e o : Expr} {es : List Expr} {ta : TE} {t : TA} {p pos apos : Pos} {q g : Addr} {mc : Value}
theorem pe_mkSL (M : Mk X.K C f) (F : FnR X.prog X.w X.K X.mg X.base CX k f sp) (hr : Room (k + 1) X.A) (hN : X.N[i]? = some x) (hv : Vis X.env.scope x) (hx : ∀ σ, PassesAt CX X σ (E σ)) (ha : PA X (e :: es) t)
    (hdb : (x == ("__debug__" : Str)) = false := by decide) (hcd : (x == ("__classdict__" : Str)) = false := by decide)
    (he : starEach (e :: es) X.env = (false, eval e X.env) :: starEach es X.env := by rfl) (hpl : (backTo pos (starEach es X.env)).any (·.1) = false := by rfl) : PE X (.Call (.Name x p) (e :: es) [] pos) (tMkSL i C sp E t) := by
  refine ⟨fun pins s σ H Q I h => ?_⟩
  obtain ⟨hs, ht⟩ := h
  refine wpAny_Call_Name_kw (thn ((pe_var (pos := p) hN hv hdb hcd).run pins s σ H (fun v H1 => v = .ref C ∧ H1 = H) I ⟨.ref C, hs, rfl, rfl⟩) fun u s1 ⟨v, H1, I1, r1, q1⟩ => ?_)
  obtain ⟨rfl, rfl⟩ := q1
  cases r1
  exact PySem.W.callWith_K (h₀ := X.base) I1.ok.mod.kin M.kp (thn (ha.run pos pins s1 σ _ _ I1 ht) fun us s2 ⟨vs, H2, J, rv, z⟩ => ⟨J.kIn, run_mkS M F hr (hx σ) J rv z⟩) he hpl
theorem pe_cm0 {pl : Sem Bool} (he : PE X o ta) (r : ClX.CRead X.K C mc) (c : ClX.CMet X.K C mc m q g) (F : FnR X.prog X.w X.K X.mg X.base CX k g sp) (hr : Room k X.A) (hx : ∀ σ, PassesAt CX X σ (E σ))
    (ht : eval (.Call (.Attribute o m apos) [] [] pos) X.env = (do
      let ov ← eval o X.env
      standAt apos.atName
      let (f, first) ← holding [ov] (getMethod ov m pl)
      callWith pos f first (backTo pos (starEach [] X.env)) (backToKw pos (keywordEach [] X.env))) := by rfl) :
    PE X (.Call (.Attribute o m apos) [] [] pos) (tCm C sp E ta tNil) := by
  refine ⟨fun pins s σ H Q I h => ?_⟩
  refine PySem.W.methodCall_KW (pl := pl) (thn (he.run pins s σ H _ I h) fun u s1 ⟨x, H1, I1, rx, ex, z⟩ => ?_) ht
  subst ex
  obtain rfl : u = Value.ref C := rx
  refine ClX.getmethcm_ok I1 r c fun s2 I2 => ?_
  refine PySem.W.callWith_M0 (first := []) ⟨ClX.pin_at I2, I2.kIn⟩ c.fi ?_
  have y : wpAny (model X.prog X.w) X.A (call (.ref _) []) (EP X ((_, PySem.W.methodObj (.ref g) (.ref C)) :: pins) σ Q) X.xe s2 :=
    wpAny_call (PySem.W.method_call (ClX.pin_at I2) (run_fnRA (us := [.ref C]) (vs := [.ref C]) F hr (hx σ) I2 (.cons rfl .nil) z))
  exact thn y fun _ _ y => ClX.unpinE y
end
end Rz

namespace Rz
open PySem PySem.Spec PyProof.Rows L2
/-! ### list(text) -/
theorem sg_vals {us : List Value} {cs : List Nat} (ln : us.length = cs.length) (h : ∀ (i : Nat) (v : Value), us[i]? = some v → ∃ c t, cs[i]? = some c ∧ v = .str ⟨#[c]⟩ t) : Vals ((sgs cs).map V.str) us := by
  induction cs generalizing us with
  | nil =>
    rw [List.eq_nil_of_length_eq_zero ln]
    exact .nil
  | cons c cs ih =>
    cases us with
    | nil => cases ln
    | cons u us =>
      obtain ⟨c2, t, h1, rfl⟩ := h 0 u rfl
      cases h1
      exact .cons ⟨t, rfl⟩ (ih (by simpa using ln) fun i v hv => h (i + 1) v (by simpa using hv))
def rListTx : List V → Hp → VK → Prop := fun vs H Q => ∃ x : Str, vs = [.str x] ∧ x.length ≤ sizeLine ∧ ∀ p, H p = none → Q (.ref p) (upd H p (.lst ((sgs x.cps.toList).map V.str)))
section
variable {X : Cx}
theorem cr_listTx (hc : X.calm = true) : CallR X (.type "list") rListTx := by
  intro pins s σ H xs us Q I r h
  obtain ⟨x, rfl, hz, q⟩ := h
  obtain ⟨u, rfl, t, rfl⟩ := vals1 r
  refine call_list_str (I.ok.hd hc) x t (hn := hz) fun g tk acc c kp hS hacc => ?_
  have hn : H s.heap.objs.size = none := I.hok.fresh (Nat.le_refl _)
  have hv : Vals ((sgs x.cps.toList).map V.str) acc.toList := sg_vals (by rw [Array.length_toList, Array.length_toList]; exact hacc.1) fun i v hv => by
    obtain ⟨d, w, h1, h2⟩ := hacc.2 i v (by simpa using hv)
    exact ⟨d, w, by rw [Array.getElem?_toList]; exact h1, h2⟩
  have hl : ((sgs x.cps.toList).map V.str).length ≤ sizeLine := by
    unfold sgs
    rw [List.length_map, List.length_map]
    exact hz
  exact ⟨.ref s.heap.objs.size, upd H s.heap.objs.size (.lst ((sgs x.cps.toList).map V.str)), I.laid (t' := tk) kp (Nat.le_refl _) ⟨hl, acc.toList, c, hv, by simpa using hS⟩, rfl, q _ hn⟩
end
/-- the signs, sorted -/
theorem sgs_perm : ∀ {cs : List Nat} {ys : List Str}, ys.Perm (sgs cs) → ∃ ds, ys = sgs ds ∧ ds.Perm cs := fun {cs ys} h => by
  have e : ys = sgs (ys.map fun y => y.cps.toList.headD 0) := by
    unfold sgs
    rw [List.map_map]
    have : ∀ y ∈ ys, ((fun c => (⟨#[c]⟩ : Str)) ∘ fun y : Str => y.cps.toList.headD 0) y = y := fun y hy => by
      obtain ⟨c, _, rfl⟩ := List.mem_map.mp (h.mem_iff.mp hy)
      rfl
    rw [List.map_congr_left this, List.map_id']
  refine ⟨_, e, ?_⟩
  have q := h.map fun y : Str => y.cps.toList.headD 0
  unfold sgs at q
  rw [List.map_map] at q
  have e2 : List.map ((fun y : Str => y.cps.toList.headD 0) ∘ fun c => (⟨#[c]⟩ : Str)) cs = cs := by
    have : ∀ l : List Nat, List.map ((fun y : Str => y.cps.toList.headD 0) ∘ fun c => (⟨#[c]⟩ : Str)) l = l := fun l => by
      induction l with
      | nil => rfl
      | cons a l ih => rw [List.map_cons, ih]; rfl
    exact this cs
  rw [e2] at q
  exact q
theorem sgs_rise {cs : List Nat} (h : sortedS (sgs cs) = true) (nd : cs.Nodup) : cs.Pairwise (· < ·) := by
  cases cs with
  | nil => exact List.Pairwise.nil
  | cons c cs => exact rise_of cs c h nd
end Rz

namespace Rz
open PySem PySem.Spec PyProof.Rows L2
/-! ### comparisons of two of one own class -/
section
variable {X : Cx} {k : Nat} {f C : Addr} {fd : FuncData} {ps : List Str} {sp : Sp}
def rCmpO (C : Addr) (sp : Sp) : R2 := fun x y H Q => ∃ (a dx b dy : Addr) (fs gs : List (Str × V)), x = .ref a ∧ y = .ref b ∧ H a = some (.ins C dx fs) ∧ H b = some (.ins C dy gs) ∧ sp [.ref a, .ref b] H (fun v H' => (∃ r, v = .bl r) ∧ Q v H') E0
/-- x == y by the own __eq__ -/
theorem op_eqO (M : Meth X.K C "__eq__" f) (F : FnOk X.prog X.w X.K X.mg X.base (L2.CX X.prog X.w) k f fd ps sp) (hr : Room k X.A) (hb : Binds X.K fd ps []) (hu : X.A.units < cLine) : OpR X (compareOp .Eq) (rCmpO C sp) := by
  intro pins s σ H x y v u Q I r1 r2 h
  obtain ⟨a, dx, b, dy, fs, gs, rfl, rfl, ea, eb, hq⟩ := h
  obtain rfl : v = Value.ref a := r1
  obtain rfl : u = Value.ref b := r2
  obtain ⟨od, J⟩ := inst_at I ea
  obtain ⟨od2, J2⟩ := inst_at I eb
  obtain ⟨m0, hF⟩ := I.fr
  show wpAny _ _ (richCompare .Eq (.ref a) (.ref b)) _ _ _
  refine PySem.W.cmp_K (op := .Eq) hu hF I.ok.mod.kin J J2.type (by unfold PySem.W.notFirst; simp) M.at_ M.fn (wpAny_mono (run_below (vs := [.ref a, .ref b]) F hr rfl hb I (.cons rfl (.cons rfl .nil)) hq) (fun r s' hv => ?_) fun _ _ z => z)
  obtain ⟨z, H', J', rz, ⟨c, rfl⟩, q⟩ := hv
  obtain rfl : r = Value.bool c := rz
  exact ⟨.bl c, H', J', rfl, q⟩
/-- x < y by the own __lt__ -/
theorem op_ltO (M : Meth X.K C "__lt__" f) (F : FnOk X.prog X.w X.K X.mg X.base (L2.CX X.prog X.w) k f fd ps sp) (hr : Room k X.A) (hb : Binds X.K fd ps []) (hu : X.A.units < cLine) : OpR X (compareOp .Lt) (rCmpO C sp) := by
  intro pins s σ H x y v u Q I r1 r2 h
  obtain ⟨a, dx, b, dy, fs, gs, rfl, rfl, ea, eb, hq⟩ := h
  obtain rfl : v = Value.ref a := r1
  obtain rfl : u = Value.ref b := r2
  obtain ⟨od, J⟩ := inst_at I ea
  obtain ⟨od2, J2⟩ := inst_at I eb
  obtain ⟨m0, hF⟩ := I.fr
  show wpAny _ _ (richCompare .Lt (.ref a) (.ref b)) _ _ _
  refine PySem.W.cmp_K (op := .Lt) hu hF I.ok.mod.kin J J2.type (by unfold PySem.W.notFirst; simp) M.at_ M.fn (wpAny_mono (run_below (vs := [.ref a, .ref b]) F hr rfl hb I (.cons rfl (.cons rfl .nil)) hq) (fun r s' hv => ?_) fun _ _ z => z)
  obtain ⟨z, H', J', rz, ⟨c, rfl⟩, q⟩ := hv
  obtain rfl : r = Value.bool c := rz
  exact ⟨.bl c, H', J', rfl, q⟩
end
end Rz
namespace Rz
open PySem PySem.Spec PyProof.Rows L2
section
variable {X : Cx} {k : Nat} {f C : Addr} {fd : FuncData} {ps : List Str} {sp : Sp}
/-- y in x by the own __contains__, that gives a bool -/
def rInO (C : Addr) (sp : Sp) : R2 := fun y x H Q => ∃ (a dx : Addr) (fs : List (Str × V)), x = .ref a ∧ H a = some (.ins C dx fs) ∧ sp [.ref a, y] H (fun v H' => ∃ r, v = .bl r ∧ Q (.bl r) H') E0
theorem op_inO (M : Meth X.K C "__contains__" f) (F : FnOk X.prog X.w X.K X.mg X.base (L2.CX X.prog X.w) k f fd ps sp) (hr : Room k X.A) (hb : Binds X.K fd ps []) : OpR X (compareOp .In) (rInO C sp) := by
  intro pins s σ H y x u v Q I r1 r2 h
  obtain ⟨a, dx, fs, rfl, ea, hq⟩ := h
  obtain rfl : v = Value.ref a := r2
  obtain ⟨od, J⟩ := inst_at I ea
  obtain ⟨m0, hF⟩ := I.fr
  refine PySem.W.in_K hF I.ok.mod.kin J M.at_ M.fn (wpAny_mono (run_below (vs := [.ref a, y]) F hr rfl hb I (.cons rfl (.cons r1 .nil)) hq) (fun r s' hv => ?_) fun _ _ z => z)
  obtain ⟨z, H', J', rz, c, rfl, q⟩ := hv
  obtain rfl : r = Value.bool c := rz
  exact wpAny_truthy_bool ⟨.bl c, H', J', rfl, q⟩
/-- x[i] by the own __getitem__ -/
def rGetO (C : Addr) (sp : Sp) : V → V → Hp → VK → Prop := fun x i H Q => ∃ (a dx : Addr) (fs : List (Str × V)), x = .ref a ∧ H a = some (.ins C dx fs) ∧ sp [.ref a, i] H Q E0
theorem get_own (M : Meth X.K C "__getitem__" f) (hn : PySem.W.noSeq X.K C = true) (F : FnOk X.prog X.w X.K X.mg X.base (L2.CX X.prog X.w) k f fd ps sp) (hr : Room k X.A) (hb : Binds X.K fd ps []) : PGet X (rGetO C sp) := by
  intro pins s σ H x i v u Q I r1 r2 h
  obtain ⟨a, dx, fs, rfl, ea, hq⟩ := h
  obtain rfl : v = Value.ref a := r1
  obtain ⟨od, J⟩ := inst_at I ea
  obtain ⟨m0, hF⟩ := I.fr
  exact PySem.W.getItem_K hF I.ok.mod.kin J hn M.at_ M.fn (run_below (vs := [.ref a, i]) F hr rfl hb I (.cons rfl (.cons r2 .nil)) hq)
end
end Rz

namespace Rz
open PySem PySem.Spec PyProof.Rows L2
/-! ### sorted(xs), xs a list of different tuples of ints and texts -/
section
variable {P : Program} {w : World} {A : Around} {E : Value → Shared → Prop} {s : Shared}
theorem sorted_tlK {l : Addr} {L : List (Addr × List Key)} {sh : Nat → Bool} {Q : Value → Shared → Prop} (hl : s.heap.IsList l (L.map fun q => Value.ref q.1).toArray) (mem : ∀ q ∈ L, IsTupleKey (mixKind P w) s.heap q.2 q.1) (nd : (L.map (·.2)).Nodup) (few : L.length ≤ sizeLine) (hf : ∀ q ∈ L, Fits sh 0 q.2 ∧ q.2 ≠ [])
    (hQ : ∀ (g : Heap) (out : Array Value) (c : Nat) (M : List (Addr × List Key)), (∀ b o, s.heap.get? b = some o → g.get? b = some o) → g.get? (s.heap.objs.size + 1) = some (seqObj "list" out c) → out.toList = M.map (fun q => Value.ref q.1) → M.Perm L → M.Pairwise (fun q r => kLt r.2 q.2 = false) → Q (.ref (s.heap.objs.size + 1)) { s with heap := g }) :
    wpAny (model P w) A (call (.builtin "sorted") [.ref l]) Q E s := by
  have vl : (L.map fun q => Value.ref q.1).length = L.length := List.length_map _
  have which : ∀ v ∈ L.map (fun q => Value.ref q.1), ∃ q ∈ L, v = Value.ref q.1 := fun v hv => by
    obtain ⟨q, hq, e⟩ := List.mem_map.mp hv
    exact ⟨q, hq, e.symm⟩
  obtain ⟨fs, hfs⟩ := tups_of (sh := sh) (h := s.heap) (vs := L.map fun q => Value.ref q.1) fun v hv => by
    obtain ⟨q, hq, rfl⟩ := which v hv
    exact first_of (mem q hq) (hf q hq).1 (hf q hq).2
  have keys : ∀ v ∈ L.map (fun q => Value.ref q.1), ∃ q ∈ L, v = Value.ref q.1 ∧ G.tupKeyC s.heap sh v = some (q.2.map kN) := fun v hv => by
    obtain ⟨q, hq, rfl⟩ := which v hv
    exact ⟨q, hq, rfl, keyC_of (mem q hq) (hf q hq).1⟩
  generalize hvs : L.map (fun q => Value.ref q.1) = vs at hl vl which hfs keys
  refine G.sorted_tups hl hfs (fun v hv => let ⟨q, _, _, e⟩ := keys v hv; ⟨_, e⟩) (by rw [vl]; exact few) fun st hp hs _ => ?_
  have hl : (arrOf st).toList.Perm (vs.zip vs) := by rw [← pairsOf_toList]; exact Array.perm_iff_toList_perm.mp hp
  have pr : ∀ p ∈ (arrOf st).toList, p.1 = p.2 ∧ p.1 ∈ vs := fun p hp2 => mem_zip_self (hl.mem_iff.mp hp2)
  have outs : ((arrOf st).map (·.2)).toList.Perm vs := by
    rw [Array.toList_map]
    have y := hl.map (fun p : Value × Value => p.2)
    rw [show (vs.zip vs).map (fun p : Value × Value => p.2) = vs from List.map_snd_zip (Nat.le_refl _)] at y
    exact y
  obtain ⟨M, eM, sub⟩ := rows_of (L := L) (vs := ((arrOf st).map (·.2)).toList) fun v hv => which v (outs.mem_iff.mp hv)
  have inj : ∀ q ∈ L, ∀ r ∈ L, q.1 = r.1 → q = r := fun q hq r hr e => by
    have y1 := mem q hq
    rw [e] at y1
    exact Prod.ext e ((tkS P w).kd.inj y1 (mem r hr))
  have pM : M.Perm L := rows_perm nd inj sub (by rw [← eM, hvs]; exact outs)
  obtain ⟨c, hc⟩ := sortedAll_at s.heap vs ((arrOf st).map (·.2))
  refine hQ _ _ c M (fun b o e => sortedAll_old e) hc eM pM ?_
  rw [List.pairwise_iff_getElem]
  intro i j hi hj hij
  have ln : (arrOf st).size = M.length := by
    have y := congrArg List.length eM
    rw [Array.length_toList, Array.size_map, List.length_map] at y
    exact y
  have kk : ∀ (n : Nat) (hn : n < M.length), KK (G.tupKindC s.heap sh) (arrOf st) n = (M[n]).2.map kN := fun n hn => by
    have hn2 : n < (arrOf st).size := by rw [ln]; exact hn
    have e5 : (arrOf st)[n]? = some (arrOf st)[n] := Array.getElem?_eq_getElem hn2
    have inA : (arrOf st)[n] ∈ (arrOf st).toList := Array.mem_toList_iff.mpr (Array.getElem_mem hn2)
    obtain ⟨y1, y2⟩ := pr _ inA
    have e6 : (arrOf st)[n].2 = Value.ref (M[n]).1 := by
      have z := congrArg (fun l : List Value => l[n]?) eM
      simp only [Array.toList_map, List.getElem?_map, Array.getElem?_toList, e5, List.getElem?_eq_getElem hn] at z
      exact Option.some.inj z
    have key := keyC_of (mem _ (sub _ (List.getElem_mem hn))) (hf _ (sub _ (List.getElem_mem hn))).1
    unfold KK
    rw [e5]
    dsimp only
    rw [y1, e6, key]
    rfl
  have y := hs i j (Nat.le_of_lt hij) (by rw [pairsOf_size, vl, ← pM.length_eq]; exact hj)
  rw [kk i hi, kk j hj] at y
  exact y
end
@[irreducible] def rSortTl (K : PySem.W.Frag) : List V → Hp → VK → Prop := fun vs H Q => ∃ (a : Addr) (L : List (Addr × List Key)) (sh : Nat → Bool), vs = [V.ref a] ∧ SqL K H a (L.map fun p => V.ref p.1) ∧ (∀ p ∈ L, SqT K H p.1 (p.2.map kV)) ∧ (L.map (·.2)).Nodup ∧ (∀ p ∈ L, Fits sh 0 p.2 ∧ p.2 ≠ []) ∧
  ∀ (M : List (Addr × List Key)) (p : Addr), M.Perm L → M.Pairwise (fun q r => kLt r.2 q.2 = false) → H p = none → Q (.ref p) (upd H p (.lst (M.map fun q => V.ref q.1)))
theorem rSortTl_go {K : PySem.W.Frag} {H : Hp} {Q : VK} (a : Addr) (L : List (Addr × List Key)) (sh : Nat → Bool) (h1 : SqL K H a (L.map fun p => V.ref p.1)) (h2 : ∀ p ∈ L, SqT K H p.1 (p.2.map kV)) (h3 : (L.map (·.2)).Nodup) (h4 : ∀ p ∈ L, Fits sh 0 p.2 ∧ p.2 ≠ [])
    (q : ∀ (M : List (Addr × List Key)) (p : Addr), M.Perm L → M.Pairwise (fun q r => kLt r.2 q.2 = false) → H p = none → Q (.ref p) (upd H p (.lst (M.map fun q => V.ref q.1)))) : rSortTl K [V.ref a] H Q := by
  unfold rSortTl
  exact ⟨a, L, sh, rfl, h1, h2, h3, h4, q⟩
section
variable {X : Cx}
theorem cr_sortTl : CallR X (.builtin "sorted") (rSortTl X.K) := by
  intro pins s σ H vs us Q I r h
  unfold rSortTl at h
  obtain ⟨a, L, sh, rfl, hl, hk, nd, hf, q⟩ := h
  obtain ⟨its, rv, pl, hz⟩ := I.list hl
  rw [Vals.ref1 r]
  have ei := refs_vals rv
  subst ei
  rw [List.length_map] at hz
  refine sorted_tlK (P := X.prog) (w := X.w) (sh := sh) pl.isList (fun p hp => inv_key I (hk p hp)) nd hz hf fun g out c M k hg hout pm pw => ?_
  have hlen : (M.map fun q => V.ref q.1).length ≤ sizeLine := by rw [List.length_map, pm.length_eq]; exact hz
  have hn : H (s.heap.objs.size + 1) = none := I.hok.fresh (Nat.le_succ _)
  exact ⟨.ref (s.heap.objs.size + 1), upd H (s.heap.objs.size + 1) (.lst (M.map fun q => V.ref q.1)), I.laid (t' := s.toks) k (Nat.le_succ _) ⟨hlen, out.toList, c, by rw [hout]; exact vals_refs M, hg⟩, rfl, q M _ pm pw hn⟩
end
end Rz

namespace Rz
open PySem PySem.Spec PyProof.Rows L2
/-! ### f(e, .., k = v), what leaves by the state -/
section
variable {X : Cx} {CX : CXT} {k n : Nat} {f : Addr} {fd : FuncData} {ps ks : List Str} {sp : Sp} {E : EX} {x : Str} {p pos : Pos} {e : Expr} {es : List Expr} {kws : List Keyword} {t tk : TA} {gg : List Value → List Value → List Value} {gV : List V → List V → List V}
def tFnK (n mm : Nat) (sp : Sp) (gV : List V → List V → List V) (E : EX) (t tk : TA) : TE := fun σ H Q => t σ H fun vs H2 => tk σ H2 fun zs H3 => vs.length = n ∧ zs.length = mm ∧ sp (gV vs zs) H3 Q (E σ)
theorem pe_fnK (F : FnOk X.prog X.w X.K X.mg X.base CX k f fd ps sp) (rm : Room k X.A) (glF : Gl X x) (modF : X.mg x = some (.ref f)) (keepF : PySem.W.keepIn X.K (.ref f) = true) (bnd : KBn X.K fd ps n ks gg gV) (leave : ∀ σ, PassesAt CX X σ (E σ))
    (argA : PA X (e :: es) t) (kwA : PK X kws tk) (named_ : (backToKw pos (keywordEach kws X.env)).all (·.1.isSome) = true := by rfl) (theKs : (backToKw pos (keywordEach kws X.env)).filterMap (·.1) = ks := by rfl)
    (noDbg : (x == ("__debug__" : Str)) = false := by decide) (starA : starEach (e :: es) X.env = (false, eval e X.env) :: starEach es X.env := by rfl)
    (plainA : ((backTo pos (starEach (e :: es) X.env)).any (·.1) || (backToKw pos (keywordEach kws X.env)).any (·.1.isNone)) = false := by rfl) :
    PE X (.Call (.Name x p) (e :: es) kws pos) (tFnK n ks.length sp gV E t tk) := by
  refine ⟨fun pn s σ H Q J0 h => ?_⟩
  refine wpAny_Call_Name_kw (ld_glob J0 glF modF ?_ noDbg)
  refine PySem.W.callWith_KW (h₀ := X.base) J0.ok.mod.kin keepF named_ (thn (argA.run pos pn s σ H _ J0 h) fun as_ sA ⟨vs, G1, J1, r, q⟩ => ?_) plainA starA
  refine thn (kwA.run pos pn sA σ G1 _ J1 q) fun bs_ sB ⟨zs, G2, J2, rz, l1, l2, q2⟩ => ⟨J2.kIn, ?_⟩
  rw [theKs]
  refine wpAny_call (codeAny_mono (F.run X.A X.stack sB G2 ⟨as_, ks.zip bs_⟩ (gg as_ bs_) (gV vs zs) Q (E σ) rm J2.env0 (bnd.to sB as_ bs_ J2.kIn (by rw [← r.length]; exact l1) (rz.length.symm.trans l2)) (bnd.rel r rz) q2) fun q s' hq => ?_)
  match q, hq with
  | .error er, hq => exact leave σ pn G2 sB er s' J2 hq
  | .ok (.ret u), hq => exact J2.after hq
  | .ok .next, hq => exact False.elim hq
  | .ok .brk, hq => exact False.elim hq
  | .ok .cont, hq => exact False.elim hq
end
end Rz

namespace Rz
open PySem PySem.Spec PyProof.Rows L2
/-! ### a head by facts: the top is run once, what is told of it is one question -/
/-- what an object leads to: a def's code, defaults, closure; a class's names and bases; a table's values; a property's def -/
def refsN (a : Addr) (o : Obj) : List Addr := match o with
  | ⟨c, _, d, _⟩ => (match d with
    | .func fd => He.refV fd.code ++ (He.refV fd.defaults ++ (He.refV fd.kwdefaults ++ fd.closure.map (·.2)))
    | .cls cd => cd.ns :: (cd.mro.flatMap He.refV).filter fun b => !(b == a)
    | .dict es _ => es.toList.flatMap fun e => He.refV e.val
    | .fields vs => (match c with
      | .type t => (match decide (t = "property") || decide (t = "classmethod") with
        | true => vs.toList.flatMap He.refV
        | false => [])
      | _ => [])
    | _ => [])
def stepN (g : Addr → Option Obj) (as : List Addr) : List Addr := as.flatMap fun a => match g a with
  | some o => refsN a o
  | none => []
def layN (g : Addr → Option Obj) : Nat → List Addr → List Addr
  | 0, as => as
  | n + 1, as => as ++ layN g n (stepN g as)
/-- these names of the module, and what they lead to in n steps -/
def asR (g : Addr → Option Obj) (xs : List Str) (n : Nat) : List Addr := mainGlobals :: cStatics :: layN g n (xs.map fun x => He.ga (He.frG g [mainGlobals]) x)
/-- where a def stands: a global, a method, a property's def, a classmethod's def -/
inductive Pa where
  | glo (x : Str)
  | meth (c m : Str)
  | prop (c m : Str)
  | cmeth (c m : Str)
def cmP (K : PySem.W.Frag) (c m : Str) : Addr := match PySem.W.findCls K (.ref (He.ga K c)) (.type "type") m with
  | some (.get _ (.ref p) _ _) => p
  | _ => 0
def recG (K : PySem.W.Frag) (p : Addr) (t : String) : Addr := match PySem.W.recIn K p t with
  | some (.ref g :: _) => g
  | _ => 0
def Pa.at (K : PySem.W.Frag) : Pa → Addr
  | .glo x => He.ga K x
  | .meth c m => He.ma K (He.ga K c) m
  | .prop c m => recG K (He.ma K (He.ga K c) m) "property"
  | .cmeth c m => recG K (cmP K c m) "classmethod"
/-- a def: where, its name, qualified name, parameters, body, scope, closure names, defaults, keyword-only defaults -/
structure DefR where
  at_ : Pa
  name : Str
  qual : Str
  params : Arguments
  body : List Stmt
  scope : Scope
  free : List Str := []
  dfl : List He.Dv := []
  kwd : List (Str × He.Dv) := []
abbrev FnHd : Type := Option (Str × Str × Arguments × FuncBody × Scope × Addr × List Str × Addr)
def fnR (K : PySem.W.Frag) (p : Pa) : FnHd := match K.lookup (p.at K) with
  | some ⟨_, _, .func fd, _⟩ => some (fd.name, fd.qualname, fd.params, fd.body, fd.scope, fd.globals, fd.closure.map (·.1), fd.builtins)
  | _ => none
def DefR.val (d : DefR) : FnHd := some (d.name, d.qual, d.params, .stmts d.body, d.scope, mainGlobals, d.free, builtinsNs)
def DefR.dvs (K : PySem.W.Frag) (d : DefR) : List V := d.dfl.map (He.Dv.v K)
def DefR.kws (K : PySem.W.Frag) (d : DefR) : List (Str × V) := d.kwd.map fun q => (q.1, q.2.v K)
def DefR.ok (K : PySem.W.Frag) (d : DefR) : Bool := PySem.W.keepIn K (.ref (d.at_.at K)) && (match K.lookup (d.at_.at K) with
  | some ⟨_, _, .func fd, _⟩ => PySem.W.codeIn K fd.code d.qual && (He.dflB K fd.defaults (d.dvs K) && He.kwdB K fd.kwdefaults (d.kws K))
  | _ => false)
theorem fnR_at {K : PySem.W.Frag} {d : DefR} (e : fnR K d.at_ = d.val) : ∃ oc od osl cl dV kV doc pm an cdv ct, cl.map (·.1) = d.free ∧
    K.lookup (d.at_.at K) = some ⟨oc, od, .func ⟨d.name, d.qual, d.params, .stmts d.body, d.scope, mainGlobals, cl, dV, kV, doc, pm, an, cdv, ct, builtinsNs⟩, osl⟩ := by
  unfold fnR at e
  cases q : K.lookup (d.at_.at K) with
  | none =>
    rw [q] at e
    cases e
  | some o =>
    obtain ⟨oc, od, dt, osl⟩ := o
    rw [q] at e
    cases dt with
    | func fd =>
      obtain ⟨n1, n2, n3, n4, n5, n6, n7, n8, n9, n10, n11, n12, n13, n14, n15⟩ := fd
      have e2 : (some (n1, n2, n3, n4, n5, n6, n7.map (·.1), n15) : FnHd) = some (d.name, d.qual, d.params, .stmts d.body, d.scope, mainGlobals, d.free, builtinsNs) := e
      simp only [Option.some.injEq, Prod.mk.injEq] at e2
      obtain ⟨h1, h2, h3, h4, h5, h6, h7, h8⟩ := e2
      subst h1 h2 h3 h4 h5 h6 h8
      exact ⟨oc, od, osl, n7, n8, n9, n10, n11, n12, n13, n14, h7, rfl⟩
    | _ => cases e
theorem DefR.funD {K : PySem.W.Frag} {d : DefR} (e : fnR K d.at_ = d.val) (c : d.ok K = true) (nofree : d.free = []) : ∃ fd, FunD K d.name d.qual d.params d.body d.scope (d.dvs K) (d.kws K) (d.at_.at K) fd := by
  obtain ⟨oc, od, osl, cl, dV, kV, doc, pm, an, cdv, ct, e1, q⟩ := fnR_at e
  rw [nofree, List.map_eq_nil_iff] at e1
  subst e1
  obtain ⟨kp, c2⟩ := He.ba c
  rw [q] at c2
  obtain ⟨k1, k2⟩ := He.ba (show (PySem.W.codeIn K cdv d.qual && (He.dflB K dV (d.dvs K) && He.kwdB K kV (d.kws K))) = true from c2)
  obtain ⟨k3, k4⟩ := He.ba k2
  exact ⟨_, ⟨oc, od, dV, kV, doc, pm, an, cdv, ct, osl, rfl, q, k1, He.dflB_ok k3, He.kwdB_ok k4⟩, kp⟩
/-- one without defaults -/
theorem FunD.fun {K : PySem.W.Frag} {x qual : Str} {st : Stmt} {f : Addr} {fd : FuncData} (F : FunD K x qual (defArgs st) (defBody st) (defScope st) [] [] f fd) : Fun K x qual st f fd := by
  obtain ⟨⟨oc, od, dV, kV, doc, pm, an, cdv, ct, osl, e, lk, hcd, hd, _⟩, kp⟩ := F
  rcases hd with ⟨_, rfl⟩ | ⟨n, _⟩
  · exact ⟨⟨oc, od, kV, doc, pm, an, cdv, ct, osl, e, lk, hcd⟩, kp⟩
  · exact absurd rfl n
/-! exceptions with an __init__ of their own -/
def oexB (K : PySem.W.Frag) (C : Addr) : Bool := match K.lookup C with
  | some ⟨.type t, _, .cls cd, sl⟩ => decide (t = "type") && (match cd.mro, sl.toList with
    | .ref C' :: bm, [_, _, _, _, some (.builtin n), _] => decide (C' = C) && (decide (n = "ValueError.__new__") && (!cd.hasDel && (cd.hasDict && PySem.HandSPX.refsVE bm)))
    | _, _ => false)
  | _ => false
theorem oexB_ok {K : PySem.W.Frag} {C : Addr} (h : oexB K C = true) : ∃ nm q N bs bm sn sub ab col dd k0 k1 k2 k3 k5, K.lookup C = some (excClassObj nm q C N bs bm true sn sub ab col dd k0 k1 k2 k3 k5 "ValueError.__new__") ∧ PySem.HandSPX.refsVE bm = true := by
  unfold oexB at h
  cases q : K.lookup C with
  | none =>
    rw [q] at h
    cases h
  | some o =>
    obtain ⟨oc, od, dt, ⟨sl⟩⟩ := o
    rw [q] at h
    cases oc with
    | type t =>
      cases dt with
      | cls cd =>
        obtain ⟨h1, h2⟩ := He.ba h
        have e1 := of_decide_eq_true h1
        obtain ⟨nm, bs, mro, ns, qn, hd, sn, sub, ab, col, del⟩ := cd
        dsimp only at h2
        split at h2
        · rename_i _ _ C' bm k0 k1 k2 k3 n k5
          obtain ⟨g1, h2⟩ := He.ba h2
          obtain ⟨g2, h2⟩ := He.ba h2
          obtain ⟨g3, h2⟩ := He.ba h2
          obtain ⟨g4, g5⟩ := He.ba h2
          have a1 := of_decide_eq_true g1
          have a2 := of_decide_eq_true g2
          have a3 : del = false := by simpa using g3
          have a4 : hd = true := g4
          subst a1
          subst a2
          subst a3
          subst a4
          subst e1
          exact ⟨nm, qn, ns, bs, bm, sn, sub, ab, col, od, k0, k1, k2, k3, k5, rfl, g5⟩
        · cases h2
      | _ => cases h
    | _ => cases dt <;> cases h
/-- the def's code object was made from this file; its closure holds the class -/
def exiB (file : Str) (K : PySem.W.Frag) (f C : Addr) (qual : Str) : Bool := match K.lookup f with
  | some ⟨_, _, .func fd, _⟩ => (match fd.defaults with
    | .none => (match fd.code with
      | .ref cda => PySem.W.codeIn K (.ref cda) qual && (match K.lookup cda with
        | some ⟨_, _, .fields vs, _⟩ => (match (vs[2]? : Option Value) with
          | some (Value.str y _) => file == y
          | _ => false)
        | _ => false)
      | _ => false) && (match fd.closure with
      | [(x, cc)] => decide (x = "__class__") && (match K.lookup cc with
        | some ⟨_, _, .cell (some (.ref a)), _⟩ => decide (a = C)
        | _ => false)
      | _ => false)
    | _ => false)
  | _ => false
theorem exiB_ok {P : Program} {K : PySem.W.Frag} {d : DefR} {C : Addr} (e : fnR K d.at_ = d.val) (h : exiB P.main.file K (d.at_.at K) C d.qual = true) :
    ∃ (oc kV doc pm ct ccl cl : Value) (od an cdd cld : Option Addr) (osl ccs csl : Array (Option Value)) (vs5 : Array Value) (file : Str) (tf : Tok) (cc cda : Addr), K.lookup (d.at_.at K) = some ⟨oc, od, .func (PySem.W.ksFn d.name d.qual d.params d.body d.scope .none kV doc pm an (.ref cda) ct cc), osl⟩ ∧
      PySem.W.codeIn K (.ref cda) d.qual = true ∧ K.lookup cda = some ⟨ccl, cdd, .fields vs5, ccs⟩ ∧ vs5[2]? = some (.str file tf) ∧ ((P.main.file : Str) == file) = true ∧ K.lookup cc = some ⟨cl, cld, .cell (some (.ref C)), csl⟩ := by
  obtain ⟨oc, od, osl, cl, dV, kV, doc, pm, an, cdv, ct, e1, q⟩ := fnR_at e
  unfold exiB at h
  rw [q] at h
  dsimp only at h
  cases dV with
  | none =>
    dsimp only at h
    obtain ⟨h1, h2⟩ := He.ba h
    cases cdv with
    | ref cda =>
      dsimp only at h1
      obtain ⟨h3, h4⟩ := He.ba h1
      cases q2 : K.lookup cda with
      | none =>
        rw [q2] at h4
        cases h4
      | some o2 =>
        obtain ⟨c2, d2, t2, s2⟩ := o2
        rw [q2] at h4
        cases t2 with
        | fields vs =>
          dsimp only at h4
          cases q3 : vs[2]? with
          | none =>
            rw [q3] at h4
            cases h4
          | some u =>
            rw [q3] at h4
            cases u with
            | str y t =>
              dsimp only at h4
              match cl, h2 with
              | [(x, cc)], h2 =>
                dsimp only at h2
                obtain ⟨h5, h6⟩ := He.ba h2
                have ex := of_decide_eq_true h5
                subst ex
                cases q4 : K.lookup cc with
                | none =>
                  rw [q4] at h6
                  cases h6
                | some o3 =>
                  obtain ⟨c3, d3, t3, s3⟩ := o3
                  rw [q4] at h6
                  cases t3 with
                  | cell u2 =>
                    cases u2 with
                    | none => cases h6
                    | some u2 =>
                      cases u2 with
                      | ref a =>
                        have ea : a = C := of_decide_eq_true h6
                        subst ea
                        exact ⟨oc, kV, doc, pm, ct, c2, c3, od, an, d2, d3, osl, s2, s3, vs, y, t, cc, cda, q, h3, q2, q3, h4, q4⟩
                      | _ => cases h6
                  | _ => cases h6
              | [], h2 => cases h2
              | _ :: _ :: _, h2 => cases h2
            | _ => cases h4
        | _ => cases h4
    | _ => cases h1
  | _ => cases h
/-! a property, a classmethod -/
def prpB (K : PySem.W.Frag) (C : Addr) (m : Str) : Bool := He.eqO (PySem.W.findIn K (.ref C) m) (some (some (.ref (He.ma K C m)))) && (He.eqO (PySem.W.specialIn K (.ref (He.ma K C m)) "__get__") (some (some (.builtin "property.__get__"))) &&
  (decide (PySem.W.takesIn K (.ref (He.ma K C m)) = some true) && (match PySem.W.recIn K (He.ma K C m) "property" with
    | some (.ref _ :: _) => true
    | _ => false)))
theorem recG_ok {K : PySem.W.Frag} {p : Addr} {t : String} (h : (match PySem.W.recIn K p t with | some (.ref _ :: _) => true | _ => false) = true) : ∃ rest, PySem.W.recIn K p t = some (.ref (recG K p t) :: rest) := by
  unfold recG
  cases q : PySem.W.recIn K p t with
  | none =>
    rw [q] at h
    cases h
  | some l =>
    rw [q] at h
    cases l with
    | nil => cases h
    | cons u r =>
      cases u with
      | ref g => exact ⟨r, rfl⟩
      | _ => cases h
theorem prpB_ok {K : PySem.W.Frag} {c m : Str} (h : prpB K (He.ga K c) m = true) : PropOf K (He.ga K c) m (He.ma K (He.ga K c) m) ((Pa.prop c m).at K) := by
  obtain ⟨h1, h⟩ := He.ba h
  obtain ⟨h2, h⟩ := He.ba h
  obtain ⟨h3, h4⟩ := He.ba h
  exact ⟨He.eqO_ok h1, He.eqO_ok h2, of_decide_eq_true h3, recG_ok h4⟩
def cmtB (K : PySem.W.Frag) (c m : Str) : Bool := PySem.W.readsIn K (He.ga K c) (.type "type") && (He.eqO (PySem.W.specialIn K (.ref (He.ga K c)) "__getattribute__") (some (some (.builtin "type.__getattribute__"))) &&
  ((match PySem.W.findCls K (.ref (He.ga K c)) (.type "type") m with
    | some (.get (.builtin b) (.ref _) .none (.ref C)) => decide (b = "classmethod.__get__") && decide (C = He.ga K c)
    | _ => false) && ((match PySem.W.recIn K (cmP K c m) "classmethod" with
    | some (.ref _ :: _) => true
    | _ => false) && PySem.W.fnIn K (recG K (cmP K c m) "classmethod"))))
theorem cmtB_ok {K : PySem.W.Frag} {c m : Str} (h : cmtB K c m = true) : ClX.CRead K (He.ga K c) (.type "type") ∧ ClX.CMet K (He.ga K c) (.type "type") m (cmP K c m) ((Pa.cmeth c m).at K) := by
  obtain ⟨h1, h⟩ := He.ba h
  obtain ⟨h2, h⟩ := He.ba h
  obtain ⟨h3, h⟩ := He.ba h
  obtain ⟨h4, h5⟩ := He.ba h
  refine ⟨⟨h1, He.eqO_ok h2⟩, ?_, recG_ok h4, h5⟩
  unfold cmP
  cases q : PySem.W.findCls K (.ref (He.ga K c)) (.type "type") m with
  | none =>
    rw [q] at h3
    cases h3
  | some x =>
    rw [q] at h3
    split at h3
    · rename_i b p C e
      obtain ⟨g1, g2⟩ := He.ba h3
      have e1 := of_decide_eq_true g1
      have e2 := of_decide_eq_true g2
      injection e with e
      subst e e1 e2
      rfl
    · cases h3
/-- isinstance(.., C) -/
def insB (K : PySem.W.Frag) (C : Addr) : Bool := He.eqO (PySem.W.findIn K (.ref C) "__class__") (some (some (.builtin "object.__class__"))) && (He.eqO (PySem.W.specialIn K (.builtin "object.__class__") "__get__") (some (some (.builtin "getset_descriptor.__get__"))) &&
  (decide (PySem.W.takesIn K (.builtin "object.__class__") = some true) && (decide (PySem.W.mroIn K C (.type "object") = some true) && decide (PySem.W.kitOne K (.ref C) (.ref C) = some true))))
theorem insB_ok {K : PySem.W.Frag} {C : Addr} (h : insB K C = true) (c : Cls K C) : C8.InsC K C := by
  obtain ⟨h1, h⟩ := He.ba h
  obtain ⟨h2, h⟩ := He.ba h
  obtain ⟨h3, h⟩ := He.ba h
  obtain ⟨h4, h5⟩ := He.ba h
  exact ⟨c, He.eqO_ok h1, He.eqO_ok h2, of_decide_eq_true h3, of_decide_eq_true h4, of_decide_eq_true h5⟩
/-! the Hook -/
abbrev AlR : Type := Bool × List FnHd
abbrev Qn : Type := PySem.W.Frag → Bool
def obsR (qs : List Qn) (ds : List DefR) (K : PySem.W.Frag) : AlR := ((qs.all fun q => q K) && ds.all fun d => d.ok K, ds.map fun d => fnR K d.at_)
def valR (ds : List DefR) : AlR := (true, ds.map DefR.val)
def SaysR (qs : List Qn) (ds : List DefR) (K : PySem.W.Frag) : Prop := obsR qs ds K = valR ds
def obsRG (xs : List Str) (n : Nat) (qs : List Qn) (ds : List DefR) (g : Addr → Option Obj) : AlR := obsR qs ds (He.frG g (asR g xs n))
def hookR (xs : List Str) (n : Nat) (qs : List Qn) (ds : List DefR) : PySem.W.Hook where
  α := AlR
  obs := fun s => obsRG xs n qs ds s.heap.get?
  val := fun _ => valR ds
  says := fun _ h => ∃ K : PySem.W.Frag, K.In h ∧ SaysR qs ds K
  of := fun _ _ e => ⟨_, He.frG_in, e⟩
  keeps := fun _ _ _ ⟨K, hK, c⟩ k => ⟨K, PySem.W.Frag.In.keeps hK k, c⟩
theorem obsRG_eq {xs : List Str} {n : Nat} {qs : List Qn} {ds : List DefR} {g : Addr → Option Obj} {s : Shared} (h : ∀ a, g a = s.heap.get? a) : obsRG xs n qs ds g = (hookR xs n qs ds).obs s := by
  have e : g = s.heap.get? := funext h
  rw [e] <;> rfl
section
variable {qs : List Qn} {ds : List DefR} {K : PySem.W.Frag}
theorem SaysR.yes (c : SaysR qs ds K) {q : Qn} (h : q ∈ qs) : q K = true := by
  have c1 := (He.ba (show ((qs.all fun q => q K) && ds.all fun d => d.ok K) = true from congrArg (fun z : AlR => z.1) c)).1
  exact List.all_eq_true.mp c1 q h
theorem SaysR.okd (c : SaysR qs ds K) {d : DefR} (h : d ∈ ds) : d.ok K = true := by
  have c1 := (He.ba (show ((qs.all fun q => q K) && ds.all fun d => d.ok K) = true from congrArg (fun z : AlR => z.1) c)).2
  exact List.all_eq_true.mp c1 d h
theorem SaysR.val (c : SaysR qs ds K) {d : DefR} (h : d ∈ ds) : fnR K d.at_ = d.val := by
  have e : ds.map (fun d => fnR K d.at_) = ds.map DefR.val := congrArg (fun z : AlR => z.2) c
  obtain ⟨i, hi, rfl⟩ := List.mem_iff_getElem.mp h
  have e2 : (ds.map fun d => fnR K d.at_)[i]? = (ds.map DefR.val)[i]? := by rw [e]
  rw [List.getElem?_map, List.getElem?_map, List.getElem?_eq_getElem hi] at e2
  exact Option.some.inj e2
end
end Rz

namespace Rz
open PySem L2
/-! ### the text by places -/
def top (i : Nat) : Stmt := PySem.Challenge.pw_risensigns_k12_book_sizes.main.body.getD i (.Pass ⟨0, 0, 0, 0⟩)
abbrev prg : Program := PySem.Challenge.pw_risensigns_k12_book_sizes
abbrev s_is_sign : Stmt := top 21
abbrev s_check_text : Stmt := top 22
abbrev s_decoded : Stmt := top 20
abbrev s_check_height : Stmt := top 23
abbrev s_check_bound : Stmt := top 24
abbrev s_Rule_init : Stmt := inClass (top 31) 0
abbrev s_Rule_str : Stmt := inClass (top 31) 1
abbrev s_Book_init : Stmt := inClass (top 32) 0
abbrev s_Book_signs : Stmt := inClass (top 32) 2
abbrev s_Book_numbered : Stmt := inClass (top 32) 17
abbrev s_Book_drop : Stmt := inClass (top 32) 8
abbrev s_Book_written : Stmt := inClass (top 32) 9
abbrev s__read_rule : Stmt := top 35
abbrev s_Book_read : Stmt := inClass (top 32) 1
abbrev s__check_states : Stmt := top 40
abbrev s__leads_of : Stmt := top 41
abbrev s_led_to : Stmt := top 43
abbrev s__check_useful : Stmt := top 42
abbrev s_Lot_init : Stmt := inClass (top 38) 0
abbrev s_Lot_moves : Stmt := inClass (top 38) 5
abbrev s__law_pool : Stmt := top 46
abbrev s__law_pick : Stmt := top 47
abbrev s__law_alphabet : Stmt := top 48
abbrev s__law_word_of : Stmt := top 49
abbrev s__law_is_int : Stmt := top 52
abbrev s__law_book_of : Stmt := top 50
abbrev s__law_led_from : Stmt := top 53
abbrev s__law_lot_of : Stmt := top 54
abbrev s__law_lines_of : Stmt := top 55
abbrev s_Book_summed : Stmt := inClass (top 32) 21
abbrev s_Book_sizes_at_bound : Stmt := inClass (top 32) 19
abbrev s_Book_sizes_below : Stmt := inClass (top 32) 20
abbrev s_Book_grown : Stmt := inClass (top 32) 16
abbrev s_machine_size : Stmt := top 39
abbrev s__law_same : Stmt := top 59
abbrev s__law_grown_told : Stmt := top 56
abbrev s__law_asked : Stmt := top 57
abbrev s__law_size_table : Stmt := top 51
abbrev s__law_due_of : Stmt := top 58
abbrev s_Book_growths : Stmt := inClass (top 32) 15
abbrev s__law_places_of : Stmt := top 60
abbrev s__law_fine : Stmt := top 61
abbrev s_law : Stmt := top 62
abbrev s_BadSign_init : Stmt := inClass (top 3) 0
abbrev s_BadHeight_init : Stmt := inClass (top 6) 0
abbrev s_NoRule_init : Stmt := inClass (top 8) 0
abbrev s_BadLine_init : Stmt := inClass (top 9) 0
abbrev s_BadBound_init : Stmt := inClass (top 10) 0
abbrev s_Useless_init : Stmt := inClass (top 15) 0
abbrev N_is_sign : List Str := ["text"]
abbrev P_is_sign : List Str := ["text"]
abbrev N_check_text : List Str := ["text", "at", "sign"]
abbrev P_check_text : List Str := ["text"]
abbrev N_decoded : List Str := ["text"]
abbrev P_decoded : List Str := ["text"]
abbrev N_check_height : List Str := ["height", "greatest"]
abbrev P_check_height : List Str := ["height", "greatest"]
abbrev N_check_bound : List Str := ["most", "greatest"]
abbrev P_check_bound : List Str := ["most", "greatest"]
abbrev N_Rule_init : List Str := ["self", "left", "right"]
abbrev P_Rule_init : List Str := ["self", "left", "right"]
abbrev N_Rule_str : List Str := ["self"]
abbrev P_Rule_str : List Str := ["self"]
abbrev N_Book_init : List Str := ["self", "rules"]
abbrev P_Book_init : List Str := ["self", "rules"]
abbrev N_Book_signs : List Str := ["self", "rule", "sides"]
abbrev P_Book_signs : List Str := ["self"]
abbrev N_Book_numbered : List Str := ["self", "number"]
abbrev P_Book_numbered : List Str := ["self", "number"]
abbrev N_Book_drop : List Str := ["self", "number", "dropped"]
abbrev P_Book_drop : List Str := ["self", "number"]
abbrev N_Book_written : List Str := ["self", "rule"]
abbrev P_Book_written : List Str := ["self"]
abbrev N__read_rule : List Str := ["line", "number", "sides", "why"]
abbrev P__read_rule : List Str := ["line", "number"]
abbrev N_Book_read : List Str := ["cls", "text", "written", "lines", "number", "line", "rules"]
abbrev P_Book_read : List Str := ["cls", "text"]
abbrev N__check_states : List Str := ["states", "last", "moves", "named", "state", "_", "to"]
abbrev P__check_states : List Str := ["states", "last", "moves"]
abbrev N__leads_of : List Str := ["moves", "leads", "state", "sign", "to"]
abbrev P__leads_of : List Str := ["moves"]
abbrev N_led_to : List Str := ["starts", "links", "follows", "state", "to", "reached", "waiting"]
abbrev P_led_to : List Str := ["starts", "links"]
abbrev N__check_useful : List Str := ["states", "last", "moves", "state", "_", "to", "begun", "ended"]
abbrev P__check_useful : List Str := ["states", "last", "moves"]
abbrev N_Lot_init : List Str := ["self", "states", "last", "moves", "leads"]
abbrev P_Lot_init : List Str := ["self", "states", "last", "moves"]
abbrev N_Lot_moves : List Str := ["self"]
abbrev P_Lot_moves : List Str := ["self"]
abbrev N__law_pool : List Str := ["_law_script", "_law_draws", "_law_seed", "_law_cell", "_law_rest", "_law_k", "_law_value"]
abbrev P__law_pool : List Str := ["_law_script"]
abbrev N__law_pick : List Str := ["_law_draws", "_law_many"]
abbrev P__law_pick : List Str := ["_law_draws", "_law_many"]
abbrev N__law_alphabet : List Str := ["_law_draws", "_law_many", "_law_letters", "_law_signs", "_law_k", "_law_letter", "_law_left"]
abbrev P__law_alphabet : List Str := ["_law_draws", "_law_many"]
abbrev N__law_word_of : List Str := ["_law_draws", "_law_signs", "_law_least", "_law_greatest", "_law_size", "_law_k"]
abbrev P__law_word_of : List Str := ["_law_draws", "_law_signs", "_law_least", "_law_greatest"]
abbrev N__law_is_int : List Str := ["_law_value"]
abbrev P__law_is_int : List Str := ["_law_value"]
abbrev N__law_book_of : List Str := ["_law_draws", "_law_signs", "_law_plans", "_law_kind", "_law_plan", "_law_k", "_law_part", "_law_many", "_law_rules", "_law_left"]
abbrev P__law_book_of : List Str := ["_law_draws", "_law_signs"]
abbrev N__law_led_from : List Str := ["_law_starts", "_law_arrows", "_law_found", "_law_k", "_law_start", "_law_goal"]
abbrev P__law_led_from : List Str := ["_law_starts", "_law_arrows"]
abbrev N__law_lot_of : List Str := ["_law_draws", "_law_signs", "_law_kind", "_law_sign", "_law_text", "_law_k", "_law_many", "_law_moves", "_law_state", "_law_goal", "_law_last", "_law_move", "_law_ahead", "_law_back", "_law_kept", "_law_inner"]
abbrev P__law_lot_of : List Str := ["_law_draws", "_law_signs"]
abbrev N__law_lines_of : List Str := ["_law_rules", "_law_left", "_law_right"]
abbrev P__law_lines_of : List Str := ["_law_rules"]
abbrev N_Book_summed : List Str := ["self", "rules", "above", "sign", "sizes", "rule", "growth"]
abbrev P_Book_summed : List Str := ["self", "rules", "above"]
abbrev N_Book_sizes_at_bound : List Str := ["self", "rule", "erasing"]
abbrev P_Book_sizes_at_bound : List Str := ["self"]
abbrev N_Book_sizes_below : List Str := ["self", "above"]
abbrev P_Book_sizes_below : List Str := ["self", "above"]
abbrev N_Book_grown : List Str := ["self", "sign", "most", "height", "sizes", "_"]
abbrev P_Book_grown : List Str := ["self", "sign", "most", "height"]
abbrev N_machine_size : List Str := ["book", "lot", "most", "_", "sign"]
abbrev P_machine_size : List Str := ["book", "lot", "most"]
abbrev N__law_same : List Str := ["_law_told", "_law_due"]
abbrev P__law_same : List Str := ["_law_told", "_law_due"]
abbrev N__law_grown_told : List Str := ["_law_book", "_law_sign", "_law_bound", "_law_level", "e", "f"]
abbrev P__law_grown_told : List Str := ["_law_book", "_law_sign", "_law_bound", "_law_level"]
abbrev N__law_asked : List Str := ["_law_book", "_law_texts", "_law_bound", "e"]
abbrev P__law_asked : List Str := ["_law_book", "_law_texts", "_law_bound"]
abbrev N__law_size_table : List Str := ["_law_rules", "_law_signs", "_law_bound", "_law_above", "_law_level", "_law_here", "_law_sign", "_law_total", "_law_left", "_law_right", "_law_other", "_law_grown"]
abbrev P__law_size_table : List Str := ["_law_rules", "_law_signs", "_law_bound"]
abbrev N__law_due_of : List Str := ["_law_rules", "_law_signs", "_law_sign", "_law_bound", "_law_level"]
abbrev P__law_due_of : List Str := ["_law_rules", "_law_signs", "_law_sign", "_law_bound", "_law_level"]
abbrev N_Book_growths : List Str := ["self", "sign", "number", "rule", "at", "found"]
abbrev P_Book_growths : List Str := ["self", "sign"]
abbrev N__law_places_of : List Str := ["_law_rules", "_law_sign", "_law_places", "_law_number", "_law_at"]
abbrev P__law_places_of : List Str := ["_law_rules", "_law_sign"]
abbrev N__law_fine : List Str := ["_law_book", "_law_rules", "_law_signs", "_law_parts", "_law_bound", "_law_level", "_law_sign", "_law_told", "_law_place", "_law_due", "_law_move"]
abbrev P__law_fine : List Str := ["_law_book", "_law_rules", "_law_signs", "_law_parts", "_law_bound", "_law_level"]
abbrev N_law : List Str := ["_law_script", "_law_draws", "_law_signs", "_law_rules", "_law_bound", "_law_far", "_law_level", "_law_parts", "_law_book", "_law_number"]
abbrev P_law : List Str := ["_law_script"]
/-! ### what stands behind the top -/
structure Txt (K : PySem.W.Frag) (mg : Str → Option Value) : Type where
  n_abs : mg "abs" = none
  n_bool : mg "bool" = none
  n_bytes : mg "bytes" = none
  n_classmethod : mg "classmethod" = none
  n_enumerate : mg "enumerate" = none
  n_int : mg "int" = none
  n_isinstance : mg "isinstance" = none
  n_len : mg "len" = none
  n_list : mg "list" = none
  n_property : mg "property" = none
  n_range : mg "range" = none
  n_set : mg "set" = none
  n_sorted : mg "sorted" = none
  n_str : mg "str" = none
  n_sum : mg "sum" = none
  n_tuple : mg "tuple" = none
  k_SIGNS : ∃ t, mg "SIGNS" = some (.str "abcdefghijklmnopqrstuvwxyz" t)
  k_GREATEST_HEIGHT : ∃ t, mg "GREATEST_HEIGHT" = some (.int 9 t)
  k_GREATEST_BOUND : ∃ t, mg "GREATEST_BOUND" = some (.int 8 t)
  k_MOST_SIGNS : ∃ t, mg "MOST_SIGNS" = some (.int 4 t)
  k_MOST_RULES : ∃ t, mg "MOST_RULES" = some (.int 6 t)
  k_MOST_STATES : ∃ t, mg "MOST_STATES" = some (.int 40 t)
  c_BadSign : Addr
  m_BadSign : mg "BadSign" = some (.ref c_BadSign)
  o_BadSign : OexC K c_BadSign
  x_BadSign : ExF K c_BadSign "at"
  f_BadSign_init : Addr
  fd_BadSign_init : FuncData
  i_BadSign : PySem.W.findIn K (.ref c_BadSign) "__init__" = some (some (.ref f_BadSign_init))
  t_BadSign : PySem.W.typeIn K (.ref f_BadSign_init) = some (.type "function")
  F_BadSign_init : ExInit prg K mg c_BadSign f_BadSign_init fd_BadSign_init "at" s_BadSign_init
  b_BadSign_init : Binds K fd_BadSign_init ["self", "at"] []
  em_BadSign_BadSign : PySem.W.exmOne K (.ref c_BadSign) (.ref c_BadSign) = some true
  -- em_BadSign_BadHeight below
  -- em_BadSign_NoRule below
  -- em_BadSign_BadLine below
  -- em_BadSign_BadBound below
  -- em_BadSign_Uneven below
  -- em_BadSign_BadRule below
  -- em_BadSign_BookFull below
  -- em_BadSign_Useless below
  -- em_BadSign_BadLot below
  c_BadHeight : Addr
  m_BadHeight : mg "BadHeight" = some (.ref c_BadHeight)
  o_BadHeight : OexC K c_BadHeight
  x_BadHeight : ExF K c_BadHeight "height"
  f_BadHeight_init : Addr
  fd_BadHeight_init : FuncData
  i_BadHeight : PySem.W.findIn K (.ref c_BadHeight) "__init__" = some (some (.ref f_BadHeight_init))
  t_BadHeight : PySem.W.typeIn K (.ref f_BadHeight_init) = some (.type "function")
  F_BadHeight_init : ExInit prg K mg c_BadHeight f_BadHeight_init fd_BadHeight_init "height" s_BadHeight_init
  b_BadHeight_init : Binds K fd_BadHeight_init ["self", "height"] []
  em_BadHeight_BadSign : PySem.W.exmOne K (.ref c_BadHeight) (.ref c_BadSign) = some false
  em_BadHeight_BadHeight : PySem.W.exmOne K (.ref c_BadHeight) (.ref c_BadHeight) = some true
  -- em_BadHeight_NoRule below
  -- em_BadHeight_BadLine below
  -- em_BadHeight_BadBound below
  -- em_BadHeight_Uneven below
  -- em_BadHeight_BadRule below
  -- em_BadHeight_BookFull below
  -- em_BadHeight_Useless below
  -- em_BadHeight_BadLot below
  c_NoRule : Addr
  m_NoRule : mg "NoRule" = some (.ref c_NoRule)
  o_NoRule : OexC K c_NoRule
  x_NoRule : ExF K c_NoRule "number"
  f_NoRule_init : Addr
  fd_NoRule_init : FuncData
  i_NoRule : PySem.W.findIn K (.ref c_NoRule) "__init__" = some (some (.ref f_NoRule_init))
  t_NoRule : PySem.W.typeIn K (.ref f_NoRule_init) = some (.type "function")
  F_NoRule_init : ExInit prg K mg c_NoRule f_NoRule_init fd_NoRule_init "number" s_NoRule_init
  b_NoRule_init : Binds K fd_NoRule_init ["self", "number"] []
  em_NoRule_BadSign : PySem.W.exmOne K (.ref c_NoRule) (.ref c_BadSign) = some false
  em_NoRule_BadHeight : PySem.W.exmOne K (.ref c_NoRule) (.ref c_BadHeight) = some false
  em_NoRule_NoRule : PySem.W.exmOne K (.ref c_NoRule) (.ref c_NoRule) = some true
  -- em_NoRule_BadLine below
  -- em_NoRule_BadBound below
  -- em_NoRule_Uneven below
  -- em_NoRule_BadRule below
  -- em_NoRule_BookFull below
  -- em_NoRule_Useless below
  -- em_NoRule_BadLot below
  c_BadLine : Addr
  m_BadLine : mg "BadLine" = some (.ref c_BadLine)
  o_BadLine : OexC K c_BadLine
  x_BadLine : ExF K c_BadLine "line"
  f_BadLine_init : Addr
  fd_BadLine_init : FuncData
  i_BadLine : PySem.W.findIn K (.ref c_BadLine) "__init__" = some (some (.ref f_BadLine_init))
  t_BadLine : PySem.W.typeIn K (.ref f_BadLine_init) = some (.type "function")
  F_BadLine_init : ExInit prg K mg c_BadLine f_BadLine_init fd_BadLine_init "line" s_BadLine_init
  b_BadLine_init : Binds K fd_BadLine_init ["self", "line"] []
  em_BadLine_BadSign : PySem.W.exmOne K (.ref c_BadLine) (.ref c_BadSign) = some false
  em_BadLine_BadHeight : PySem.W.exmOne K (.ref c_BadLine) (.ref c_BadHeight) = some false
  em_BadLine_NoRule : PySem.W.exmOne K (.ref c_BadLine) (.ref c_NoRule) = some false
  em_BadLine_BadLine : PySem.W.exmOne K (.ref c_BadLine) (.ref c_BadLine) = some true
  -- em_BadLine_BadBound below
  -- em_BadLine_Uneven below
  -- em_BadLine_BadRule below
  -- em_BadLine_BookFull below
  -- em_BadLine_Useless below
  -- em_BadLine_BadLot below
  c_BadBound : Addr
  m_BadBound : mg "BadBound" = some (.ref c_BadBound)
  o_BadBound : OexC K c_BadBound
  x_BadBound : ExF K c_BadBound "most"
  f_BadBound_init : Addr
  fd_BadBound_init : FuncData
  i_BadBound : PySem.W.findIn K (.ref c_BadBound) "__init__" = some (some (.ref f_BadBound_init))
  t_BadBound : PySem.W.typeIn K (.ref f_BadBound_init) = some (.type "function")
  F_BadBound_init : ExInit prg K mg c_BadBound f_BadBound_init fd_BadBound_init "most" s_BadBound_init
  b_BadBound_init : Binds K fd_BadBound_init ["self", "most"] []
  em_BadBound_BadSign : PySem.W.exmOne K (.ref c_BadBound) (.ref c_BadSign) = some false
  em_BadBound_BadHeight : PySem.W.exmOne K (.ref c_BadBound) (.ref c_BadHeight) = some false
  em_BadBound_NoRule : PySem.W.exmOne K (.ref c_BadBound) (.ref c_NoRule) = some false
  em_BadBound_BadLine : PySem.W.exmOne K (.ref c_BadBound) (.ref c_BadLine) = some false
  em_BadBound_BadBound : PySem.W.exmOne K (.ref c_BadBound) (.ref c_BadBound) = some true
  -- em_BadBound_Uneven below
  -- em_BadBound_BadRule below
  -- em_BadBound_BookFull below
  -- em_BadBound_Useless below
  -- em_BadBound_BadLot below
  c_Uneven : Addr
  m_Uneven : mg "Uneven" = some (.ref c_Uneven)
  o_Uneven : PySem.W.excIn K c_Uneven [.type "ValueError", .type "Exception", .type "BaseException", .type "object"] "ValueError.__new__" = true
  kp_Uneven : PySem.W.keepIn K (.ref c_Uneven) = true
  r_Uneven : PySem.W.subIn K (.ref c_Uneven) (.type "BaseException") = some true
  t_Uneven : PySem.W.typeIn K (.ref c_Uneven) = some (.type "type")
  em_Uneven_BadSign : PySem.W.exmOne K (.ref c_Uneven) (.ref c_BadSign) = some false
  em_Uneven_BadHeight : PySem.W.exmOne K (.ref c_Uneven) (.ref c_BadHeight) = some false
  em_Uneven_NoRule : PySem.W.exmOne K (.ref c_Uneven) (.ref c_NoRule) = some false
  em_Uneven_BadLine : PySem.W.exmOne K (.ref c_Uneven) (.ref c_BadLine) = some false
  em_Uneven_BadBound : PySem.W.exmOne K (.ref c_Uneven) (.ref c_BadBound) = some false
  em_Uneven_Uneven : PySem.W.exmOne K (.ref c_Uneven) (.ref c_Uneven) = some true
  -- em_Uneven_BadRule below
  -- em_Uneven_BookFull below
  -- em_Uneven_Useless below
  -- em_Uneven_BadLot below
  c_BadRule : Addr
  m_BadRule : mg "BadRule" = some (.ref c_BadRule)
  o_BadRule : PySem.W.excIn K c_BadRule [.type "ValueError", .type "Exception", .type "BaseException", .type "object"] "ValueError.__new__" = true
  kp_BadRule : PySem.W.keepIn K (.ref c_BadRule) = true
  r_BadRule : PySem.W.subIn K (.ref c_BadRule) (.type "BaseException") = some true
  t_BadRule : PySem.W.typeIn K (.ref c_BadRule) = some (.type "type")
  em_BadRule_BadSign : PySem.W.exmOne K (.ref c_BadRule) (.ref c_BadSign) = some false
  em_BadRule_BadHeight : PySem.W.exmOne K (.ref c_BadRule) (.ref c_BadHeight) = some false
  em_BadRule_NoRule : PySem.W.exmOne K (.ref c_BadRule) (.ref c_NoRule) = some false
  em_BadRule_BadLine : PySem.W.exmOne K (.ref c_BadRule) (.ref c_BadLine) = some false
  em_BadRule_BadBound : PySem.W.exmOne K (.ref c_BadRule) (.ref c_BadBound) = some false
  em_BadRule_Uneven : PySem.W.exmOne K (.ref c_BadRule) (.ref c_Uneven) = some false
  em_BadRule_BadRule : PySem.W.exmOne K (.ref c_BadRule) (.ref c_BadRule) = some true
  -- em_BadRule_BookFull below
  -- em_BadRule_Useless below
  -- em_BadRule_BadLot below
  c_BookFull : Addr
  m_BookFull : mg "BookFull" = some (.ref c_BookFull)
  o_BookFull : PySem.W.excIn K c_BookFull [.type "ValueError", .type "Exception", .type "BaseException", .type "object"] "ValueError.__new__" = true
  kp_BookFull : PySem.W.keepIn K (.ref c_BookFull) = true
  r_BookFull : PySem.W.subIn K (.ref c_BookFull) (.type "BaseException") = some true
  t_BookFull : PySem.W.typeIn K (.ref c_BookFull) = some (.type "type")
  em_BookFull_BadSign : PySem.W.exmOne K (.ref c_BookFull) (.ref c_BadSign) = some false
  em_BookFull_BadHeight : PySem.W.exmOne K (.ref c_BookFull) (.ref c_BadHeight) = some false
  em_BookFull_NoRule : PySem.W.exmOne K (.ref c_BookFull) (.ref c_NoRule) = some false
  em_BookFull_BadLine : PySem.W.exmOne K (.ref c_BookFull) (.ref c_BadLine) = some false
  em_BookFull_BadBound : PySem.W.exmOne K (.ref c_BookFull) (.ref c_BadBound) = some false
  em_BookFull_Uneven : PySem.W.exmOne K (.ref c_BookFull) (.ref c_Uneven) = some false
  em_BookFull_BadRule : PySem.W.exmOne K (.ref c_BookFull) (.ref c_BadRule) = some false
  em_BookFull_BookFull : PySem.W.exmOne K (.ref c_BookFull) (.ref c_BookFull) = some true
  -- em_BookFull_Useless below
  -- em_BookFull_BadLot below
  c_Useless : Addr
  m_Useless : mg "Useless" = some (.ref c_Useless)
  o_Useless : OexC K c_Useless
  x_Useless : ExF K c_Useless "state"
  f_Useless_init : Addr
  fd_Useless_init : FuncData
  i_Useless : PySem.W.findIn K (.ref c_Useless) "__init__" = some (some (.ref f_Useless_init))
  t_Useless : PySem.W.typeIn K (.ref f_Useless_init) = some (.type "function")
  F_Useless_init : ExInit prg K mg c_Useless f_Useless_init fd_Useless_init "state" s_Useless_init
  b_Useless_init : Binds K fd_Useless_init ["self", "state"] []
  em_Useless_BadSign : PySem.W.exmOne K (.ref c_Useless) (.ref c_BadSign) = some false
  em_Useless_BadHeight : PySem.W.exmOne K (.ref c_Useless) (.ref c_BadHeight) = some false
  em_Useless_NoRule : PySem.W.exmOne K (.ref c_Useless) (.ref c_NoRule) = some false
  em_Useless_BadLine : PySem.W.exmOne K (.ref c_Useless) (.ref c_BadLine) = some false
  em_Useless_BadBound : PySem.W.exmOne K (.ref c_Useless) (.ref c_BadBound) = some false
  em_Useless_Uneven : PySem.W.exmOne K (.ref c_Useless) (.ref c_Uneven) = some false
  em_Useless_BadRule : PySem.W.exmOne K (.ref c_Useless) (.ref c_BadRule) = some false
  em_Useless_BookFull : PySem.W.exmOne K (.ref c_Useless) (.ref c_BookFull) = some false
  em_Useless_Useless : PySem.W.exmOne K (.ref c_Useless) (.ref c_Useless) = some true
  -- em_Useless_BadLot below
  c_BadLot : Addr
  m_BadLot : mg "BadLot" = some (.ref c_BadLot)
  o_BadLot : PySem.W.excIn K c_BadLot [.type "ValueError", .type "Exception", .type "BaseException", .type "object"] "ValueError.__new__" = true
  kp_BadLot : PySem.W.keepIn K (.ref c_BadLot) = true
  r_BadLot : PySem.W.subIn K (.ref c_BadLot) (.type "BaseException") = some true
  t_BadLot : PySem.W.typeIn K (.ref c_BadLot) = some (.type "type")
  em_BadLot_BadSign : PySem.W.exmOne K (.ref c_BadLot) (.ref c_BadSign) = some false
  em_BadLot_BadHeight : PySem.W.exmOne K (.ref c_BadLot) (.ref c_BadHeight) = some false
  em_BadLot_NoRule : PySem.W.exmOne K (.ref c_BadLot) (.ref c_NoRule) = some false
  em_BadLot_BadLine : PySem.W.exmOne K (.ref c_BadLot) (.ref c_BadLine) = some false
  em_BadLot_BadBound : PySem.W.exmOne K (.ref c_BadLot) (.ref c_BadBound) = some false
  em_BadLot_Uneven : PySem.W.exmOne K (.ref c_BadLot) (.ref c_Uneven) = some false
  em_BadLot_BadRule : PySem.W.exmOne K (.ref c_BadLot) (.ref c_BadRule) = some false
  em_BadLot_BookFull : PySem.W.exmOne K (.ref c_BadLot) (.ref c_BookFull) = some false
  em_BadLot_Useless : PySem.W.exmOne K (.ref c_BadLot) (.ref c_Useless) = some false
  em_BadLot_BadLot : PySem.W.exmOne K (.ref c_BadLot) (.ref c_BadLot) = some true
  em_BadSign_BadHeight : PySem.W.exmOne K (.ref c_BadSign) (.ref c_BadHeight) = some false
  em_BadSign_NoRule : PySem.W.exmOne K (.ref c_BadSign) (.ref c_NoRule) = some false
  em_BadSign_BadLine : PySem.W.exmOne K (.ref c_BadSign) (.ref c_BadLine) = some false
  em_BadSign_BadBound : PySem.W.exmOne K (.ref c_BadSign) (.ref c_BadBound) = some false
  em_BadSign_Uneven : PySem.W.exmOne K (.ref c_BadSign) (.ref c_Uneven) = some false
  em_BadSign_BadRule : PySem.W.exmOne K (.ref c_BadSign) (.ref c_BadRule) = some false
  em_BadSign_BookFull : PySem.W.exmOne K (.ref c_BadSign) (.ref c_BookFull) = some false
  em_BadSign_Useless : PySem.W.exmOne K (.ref c_BadSign) (.ref c_Useless) = some false
  em_BadSign_BadLot : PySem.W.exmOne K (.ref c_BadSign) (.ref c_BadLot) = some false
  em_BadHeight_NoRule : PySem.W.exmOne K (.ref c_BadHeight) (.ref c_NoRule) = some false
  em_BadHeight_BadLine : PySem.W.exmOne K (.ref c_BadHeight) (.ref c_BadLine) = some false
  em_BadHeight_BadBound : PySem.W.exmOne K (.ref c_BadHeight) (.ref c_BadBound) = some false
  em_BadHeight_Uneven : PySem.W.exmOne K (.ref c_BadHeight) (.ref c_Uneven) = some false
  em_BadHeight_BadRule : PySem.W.exmOne K (.ref c_BadHeight) (.ref c_BadRule) = some false
  em_BadHeight_BookFull : PySem.W.exmOne K (.ref c_BadHeight) (.ref c_BookFull) = some false
  em_BadHeight_Useless : PySem.W.exmOne K (.ref c_BadHeight) (.ref c_Useless) = some false
  em_BadHeight_BadLot : PySem.W.exmOne K (.ref c_BadHeight) (.ref c_BadLot) = some false
  em_NoRule_BadLine : PySem.W.exmOne K (.ref c_NoRule) (.ref c_BadLine) = some false
  em_NoRule_BadBound : PySem.W.exmOne K (.ref c_NoRule) (.ref c_BadBound) = some false
  em_NoRule_Uneven : PySem.W.exmOne K (.ref c_NoRule) (.ref c_Uneven) = some false
  em_NoRule_BadRule : PySem.W.exmOne K (.ref c_NoRule) (.ref c_BadRule) = some false
  em_NoRule_BookFull : PySem.W.exmOne K (.ref c_NoRule) (.ref c_BookFull) = some false
  em_NoRule_Useless : PySem.W.exmOne K (.ref c_NoRule) (.ref c_Useless) = some false
  em_NoRule_BadLot : PySem.W.exmOne K (.ref c_NoRule) (.ref c_BadLot) = some false
  em_BadLine_BadBound : PySem.W.exmOne K (.ref c_BadLine) (.ref c_BadBound) = some false
  em_BadLine_Uneven : PySem.W.exmOne K (.ref c_BadLine) (.ref c_Uneven) = some false
  em_BadLine_BadRule : PySem.W.exmOne K (.ref c_BadLine) (.ref c_BadRule) = some false
  em_BadLine_BookFull : PySem.W.exmOne K (.ref c_BadLine) (.ref c_BookFull) = some false
  em_BadLine_Useless : PySem.W.exmOne K (.ref c_BadLine) (.ref c_Useless) = some false
  em_BadLine_BadLot : PySem.W.exmOne K (.ref c_BadLine) (.ref c_BadLot) = some false
  em_BadBound_Uneven : PySem.W.exmOne K (.ref c_BadBound) (.ref c_Uneven) = some false
  em_BadBound_BadRule : PySem.W.exmOne K (.ref c_BadBound) (.ref c_BadRule) = some false
  em_BadBound_BookFull : PySem.W.exmOne K (.ref c_BadBound) (.ref c_BookFull) = some false
  em_BadBound_Useless : PySem.W.exmOne K (.ref c_BadBound) (.ref c_Useless) = some false
  em_BadBound_BadLot : PySem.W.exmOne K (.ref c_BadBound) (.ref c_BadLot) = some false
  em_Uneven_BadRule : PySem.W.exmOne K (.ref c_Uneven) (.ref c_BadRule) = some false
  em_Uneven_BookFull : PySem.W.exmOne K (.ref c_Uneven) (.ref c_BookFull) = some false
  em_Uneven_Useless : PySem.W.exmOne K (.ref c_Uneven) (.ref c_Useless) = some false
  em_Uneven_BadLot : PySem.W.exmOne K (.ref c_Uneven) (.ref c_BadLot) = some false
  em_BadRule_BookFull : PySem.W.exmOne K (.ref c_BadRule) (.ref c_BookFull) = some false
  em_BadRule_Useless : PySem.W.exmOne K (.ref c_BadRule) (.ref c_Useless) = some false
  em_BadRule_BadLot : PySem.W.exmOne K (.ref c_BadRule) (.ref c_BadLot) = some false
  em_BookFull_Useless : PySem.W.exmOne K (.ref c_BookFull) (.ref c_Useless) = some false
  em_BookFull_BadLot : PySem.W.exmOne K (.ref c_BookFull) (.ref c_BadLot) = some false
  em_Useless_BadLot : PySem.W.exmOne K (.ref c_Useless) (.ref c_BadLot) = some true
  c_Rule : Addr
  m_Rule : mg "Rule" = some (.ref c_Rule)
  cl_Rule : Cls K c_Rule
  mk_Rule : PySem.W.makesIn K c_Rule = true
  kp_Rule : PySem.W.keepIn K (.ref c_Rule) = true
  is_Rule : C8.InsC K c_Rule
  sf_Rule : PySem.W.selfFirst K c_Rule = true
  na_Rule_left : NoAttr K c_Rule "left"
  na_Rule_right : NoAttr K c_Rule "right"
  c_Book : Addr
  m_Book : mg "Book" = some (.ref c_Book)
  cl_Book : Cls K c_Book
  mk_Book : PySem.W.makesIn K c_Book = true
  kp_Book : PySem.W.keepIn K (.ref c_Book) = true
  is_Book : C8.InsC K c_Book
  sf_Book : PySem.W.selfFirst K c_Book = true
  na_Book__rules : NoAttr K c_Book "_rules"
  c_Lot : Addr
  m_Lot : mg "Lot" = some (.ref c_Lot)
  cl_Lot : Cls K c_Lot
  mk_Lot : PySem.W.makesIn K c_Lot = true
  kp_Lot : PySem.W.keepIn K (.ref c_Lot) = true
  is_Lot : C8.InsC K c_Lot
  sf_Lot : PySem.W.selfFirst K c_Lot = true
  na_Lot__states : NoAttr K c_Lot "_states"
  na_Lot__last : NoAttr K c_Lot "_last"
  na_Lot__moves : NoAttr K c_Lot "_moves"
  na_Lot__leads : NoAttr K c_Lot "_leads"
  f_is_sign : Addr
  fd_is_sign : FuncData
  F_is_sign : Fun K "is_sign" "is_sign" s_is_sign f_is_sign fd_is_sign
  b_is_sign : Binds K fd_is_sign P_is_sign []
  m_is_sign : mg "is_sign" = some (.ref f_is_sign)
  f_check_text : Addr
  fd_check_text : FuncData
  F_check_text : Fun K "check_text" "check_text" s_check_text f_check_text fd_check_text
  b_check_text : Binds K fd_check_text P_check_text []
  m_check_text : mg "check_text" = some (.ref f_check_text)
  f_decoded : Addr
  fd_decoded : FuncData
  F_decoded : Fun K "decoded" "decoded" s_decoded f_decoded fd_decoded
  b_decoded : Binds K fd_decoded P_decoded []
  m_decoded : mg "decoded" = some (.ref f_decoded)
  f_check_height : Addr
  fd_check_height : FuncData
  F_check_height : Fun K "check_height" "check_height" s_check_height f_check_height fd_check_height
  b_check_height : Binds K fd_check_height P_check_height []
  m_check_height : mg "check_height" = some (.ref f_check_height)
  f_check_bound : Addr
  fd_check_bound : FuncData
  F_check_bound : Fun K "check_bound" "check_bound" s_check_bound f_check_bound fd_check_bound
  b_check_bound : Binds K fd_check_bound P_check_bound []
  m_check_bound : mg "check_bound" = some (.ref f_check_bound)
  f_Rule_init : Addr
  fd_Rule_init : FuncData
  D_Rule_init : FunD K "__init__" "Rule.__init__" (defArgs s_Rule_init) (defBody s_Rule_init) (defScope s_Rule_init) [.str ""] [] f_Rule_init fd_Rule_init
  kp_Rule_init : PySem.W.keepIn K (.ref f_Rule_init) = true
  M_Rule_init : Meth K c_Rule "__init__" f_Rule_init
  f_Rule_str : Addr
  fd_Rule_str : FuncData
  F_Rule_str : Fun K "__str__" "Rule.__str__" s_Rule_str f_Rule_str fd_Rule_str
  b_Rule_str : Binds K fd_Rule_str P_Rule_str []
  M_Rule_str : Meth K c_Rule "__str__" f_Rule_str
  f_Book_init : Addr
  fd_Book_init : FuncData
  F_Book_init : Fun K "__init__" "Book.__init__" s_Book_init f_Book_init fd_Book_init
  M_Book_init : Meth K c_Book "__init__" f_Book_init
  f_Book_signs : Addr
  fd_Book_signs : FuncData
  F_Book_signs : Fun K "signs" "Book.signs" s_Book_signs f_Book_signs fd_Book_signs
  b_Book_signs : Binds K fd_Book_signs P_Book_signs []
  p_Book_signs : Addr
  M_Book_signs : PropOf K c_Book "signs" p_Book_signs f_Book_signs
  f_Book_numbered : Addr
  fd_Book_numbered : FuncData
  F_Book_numbered : Fun K "_numbered" "Book._numbered" s_Book_numbered f_Book_numbered fd_Book_numbered
  b_Book_numbered : Binds K fd_Book_numbered P_Book_numbered []
  M_Book_numbered : Meth K c_Book "_numbered" f_Book_numbered
  f_Book_drop : Addr
  fd_Book_drop : FuncData
  F_Book_drop : Fun K "drop" "Book.drop" s_Book_drop f_Book_drop fd_Book_drop
  b_Book_drop : Binds K fd_Book_drop P_Book_drop []
  M_Book_drop : Meth K c_Book "drop" f_Book_drop
  f_Book_written : Addr
  fd_Book_written : FuncData
  F_Book_written : Fun K "written" "Book.written" s_Book_written f_Book_written fd_Book_written
  b_Book_written : Binds K fd_Book_written P_Book_written []
  M_Book_written : Meth K c_Book "written" f_Book_written
  f__read_rule : Addr
  fd__read_rule : FuncData
  F__read_rule : Fun K "_read_rule" "_read_rule" s__read_rule f__read_rule fd__read_rule
  b__read_rule : Binds K fd__read_rule P__read_rule []
  m__read_rule : mg "_read_rule" = some (.ref f__read_rule)
  f_Book_read : Addr
  fd_Book_read : FuncData
  F_Book_read : Fun K "read" "Book.read" s_Book_read f_Book_read fd_Book_read
  b_Book_read : Binds K fd_Book_read P_Book_read []
  p_Book_read : Addr
  cr_Book_read : ClX.CRead K c_Book (.type "type")
  M_Book_read : ClX.CMet K c_Book (.type "type") "read" p_Book_read f_Book_read
  f__check_states : Addr
  fd__check_states : FuncData
  F__check_states : Fun K "_check_states" "_check_states" s__check_states f__check_states fd__check_states
  b__check_states : Binds K fd__check_states P__check_states []
  m__check_states : mg "_check_states" = some (.ref f__check_states)
  f__leads_of : Addr
  fd__leads_of : FuncData
  F__leads_of : Fun K "_leads_of" "_leads_of" s__leads_of f__leads_of fd__leads_of
  b__leads_of : Binds K fd__leads_of P__leads_of []
  m__leads_of : mg "_leads_of" = some (.ref f__leads_of)
  f_led_to : Addr
  fd_led_to : FuncData
  F_led_to : Fun K "led_to" "led_to" s_led_to f_led_to fd_led_to
  b_led_to : Binds K fd_led_to P_led_to []
  m_led_to : mg "led_to" = some (.ref f_led_to)
  f__check_useful : Addr
  fd__check_useful : FuncData
  F__check_useful : Fun K "_check_useful" "_check_useful" s__check_useful f__check_useful fd__check_useful
  b__check_useful : Binds K fd__check_useful P__check_useful []
  m__check_useful : mg "_check_useful" = some (.ref f__check_useful)
  f_Lot_init : Addr
  fd_Lot_init : FuncData
  F_Lot_init : Fun K "__init__" "Lot.__init__" s_Lot_init f_Lot_init fd_Lot_init
  b_Lot_init : Binds K fd_Lot_init P_Lot_init []
  M_Lot_init : Meth K c_Lot "__init__" f_Lot_init
  f_Lot_moves : Addr
  fd_Lot_moves : FuncData
  F_Lot_moves : Fun K "moves" "Lot.moves" s_Lot_moves f_Lot_moves fd_Lot_moves
  b_Lot_moves : Binds K fd_Lot_moves P_Lot_moves []
  p_Lot_moves : Addr
  M_Lot_moves : PropOf K c_Lot "moves" p_Lot_moves f_Lot_moves
  f__law_pool : Addr
  fd__law_pool : FuncData
  F__law_pool : Fun K "_law_pool" "_law_pool" s__law_pool f__law_pool fd__law_pool
  b__law_pool : Binds K fd__law_pool P__law_pool []
  m__law_pool : mg "_law_pool" = some (.ref f__law_pool)
  f__law_pick : Addr
  fd__law_pick : FuncData
  F__law_pick : Fun K "_law_pick" "_law_pick" s__law_pick f__law_pick fd__law_pick
  b__law_pick : Binds K fd__law_pick P__law_pick []
  m__law_pick : mg "_law_pick" = some (.ref f__law_pick)
  f__law_alphabet : Addr
  fd__law_alphabet : FuncData
  F__law_alphabet : Fun K "_law_alphabet" "_law_alphabet" s__law_alphabet f__law_alphabet fd__law_alphabet
  b__law_alphabet : Binds K fd__law_alphabet P__law_alphabet []
  m__law_alphabet : mg "_law_alphabet" = some (.ref f__law_alphabet)
  f__law_word_of : Addr
  fd__law_word_of : FuncData
  F__law_word_of : Fun K "_law_word_of" "_law_word_of" s__law_word_of f__law_word_of fd__law_word_of
  b__law_word_of : Binds K fd__law_word_of P__law_word_of []
  m__law_word_of : mg "_law_word_of" = some (.ref f__law_word_of)
  f__law_is_int : Addr
  fd__law_is_int : FuncData
  F__law_is_int : Fun K "_law_is_int" "_law_is_int" s__law_is_int f__law_is_int fd__law_is_int
  b__law_is_int : Binds K fd__law_is_int P__law_is_int []
  m__law_is_int : mg "_law_is_int" = some (.ref f__law_is_int)
  f__law_book_of : Addr
  fd__law_book_of : FuncData
  F__law_book_of : Fun K "_law_book_of" "_law_book_of" s__law_book_of f__law_book_of fd__law_book_of
  b__law_book_of : Binds K fd__law_book_of P__law_book_of []
  m__law_book_of : mg "_law_book_of" = some (.ref f__law_book_of)
  f__law_led_from : Addr
  fd__law_led_from : FuncData
  F__law_led_from : Fun K "_law_led_from" "_law_led_from" s__law_led_from f__law_led_from fd__law_led_from
  b__law_led_from : Binds K fd__law_led_from P__law_led_from []
  m__law_led_from : mg "_law_led_from" = some (.ref f__law_led_from)
  f__law_lot_of : Addr
  fd__law_lot_of : FuncData
  F__law_lot_of : Fun K "_law_lot_of" "_law_lot_of" s__law_lot_of f__law_lot_of fd__law_lot_of
  b__law_lot_of : Binds K fd__law_lot_of P__law_lot_of []
  m__law_lot_of : mg "_law_lot_of" = some (.ref f__law_lot_of)
  f__law_lines_of : Addr
  fd__law_lines_of : FuncData
  F__law_lines_of : Fun K "_law_lines_of" "_law_lines_of" s__law_lines_of f__law_lines_of fd__law_lines_of
  b__law_lines_of : Binds K fd__law_lines_of P__law_lines_of []
  m__law_lines_of : mg "_law_lines_of" = some (.ref f__law_lines_of)
  f_Book_summed : Addr
  fd_Book_summed : FuncData
  F_Book_summed : Fun K "_summed" "Book._summed" s_Book_summed f_Book_summed fd_Book_summed
  b_Book_summed : Binds K fd_Book_summed P_Book_summed []
  M_Book_summed : Meth K c_Book "_summed" f_Book_summed
  f_Book_sizes_at_bound : Addr
  fd_Book_sizes_at_bound : FuncData
  F_Book_sizes_at_bound : Fun K "_sizes_at_bound" "Book._sizes_at_bound" s_Book_sizes_at_bound f_Book_sizes_at_bound fd_Book_sizes_at_bound
  b_Book_sizes_at_bound : Binds K fd_Book_sizes_at_bound P_Book_sizes_at_bound []
  M_Book_sizes_at_bound : Meth K c_Book "_sizes_at_bound" f_Book_sizes_at_bound
  f_Book_sizes_below : Addr
  fd_Book_sizes_below : FuncData
  F_Book_sizes_below : Fun K "_sizes_below" "Book._sizes_below" s_Book_sizes_below f_Book_sizes_below fd_Book_sizes_below
  b_Book_sizes_below : Binds K fd_Book_sizes_below P_Book_sizes_below []
  M_Book_sizes_below : Meth K c_Book "_sizes_below" f_Book_sizes_below
  f_Book_grown : Addr
  fd_Book_grown : FuncData
  D_Book_grown : FunD K "grown" "Book.grown" (defArgs s_Book_grown) (defBody s_Book_grown) (defScope s_Book_grown) [] [("height", .int 0)] f_Book_grown fd_Book_grown
  kp_Book_grown : PySem.W.keepIn K (.ref f_Book_grown) = true
  M_Book_grown : Meth K c_Book "grown" f_Book_grown
  f_machine_size : Addr
  fd_machine_size : FuncData
  F_machine_size : Fun K "machine_size" "machine_size" s_machine_size f_machine_size fd_machine_size
  m_machine_size : mg "machine_size" = some (.ref f_machine_size)
  f__law_same : Addr
  fd__law_same : FuncData
  F__law_same : Fun K "_law_same" "_law_same" s__law_same f__law_same fd__law_same
  b__law_same : Binds K fd__law_same P__law_same []
  m__law_same : mg "_law_same" = some (.ref f__law_same)
  f__law_grown_told : Addr
  fd__law_grown_told : FuncData
  F__law_grown_told : Fun K "_law_grown_told" "_law_grown_told" s__law_grown_told f__law_grown_told fd__law_grown_told
  b__law_grown_told : Binds K fd__law_grown_told P__law_grown_told []
  m__law_grown_told : mg "_law_grown_told" = some (.ref f__law_grown_told)
  f__law_asked : Addr
  fd__law_asked : FuncData
  F__law_asked : Fun K "_law_asked" "_law_asked" s__law_asked f__law_asked fd__law_asked
  b__law_asked : Binds K fd__law_asked P__law_asked []
  m__law_asked : mg "_law_asked" = some (.ref f__law_asked)
  f__law_size_table : Addr
  fd__law_size_table : FuncData
  F__law_size_table : Fun K "_law_size_table" "_law_size_table" s__law_size_table f__law_size_table fd__law_size_table
  b__law_size_table : Binds K fd__law_size_table P__law_size_table []
  m__law_size_table : mg "_law_size_table" = some (.ref f__law_size_table)
  f__law_due_of : Addr
  fd__law_due_of : FuncData
  F__law_due_of : Fun K "_law_due_of" "_law_due_of" s__law_due_of f__law_due_of fd__law_due_of
  b__law_due_of : Binds K fd__law_due_of P__law_due_of []
  m__law_due_of : mg "_law_due_of" = some (.ref f__law_due_of)
  f_Book_growths : Addr
  fd_Book_growths : FuncData
  F_Book_growths : Fun K "growths" "Book.growths" s_Book_growths f_Book_growths fd_Book_growths
  b_Book_growths : Binds K fd_Book_growths P_Book_growths []
  M_Book_growths : Meth K c_Book "growths" f_Book_growths
  f__law_places_of : Addr
  fd__law_places_of : FuncData
  F__law_places_of : Fun K "_law_places_of" "_law_places_of" s__law_places_of f__law_places_of fd__law_places_of
  b__law_places_of : Binds K fd__law_places_of P__law_places_of []
  m__law_places_of : mg "_law_places_of" = some (.ref f__law_places_of)
  f__law_fine : Addr
  fd__law_fine : FuncData
  F__law_fine : Fun K "_law_fine" "_law_fine" s__law_fine f__law_fine fd__law_fine
  b__law_fine : Binds K fd__law_fine P__law_fine []
  m__law_fine : mg "_law_fine" = some (.ref f__law_fine)
  f_law : Addr
  fd_law : FuncData
  F_law : Fun K "law" "law" s_law f_law fd_law
  b_law : Binds K fd_law P_law []
  m_law : mg "law" = some (.ref f_law)
theorem bd_Rule_init_2 {K : PySem.W.Frag} {mg : Str → Option Value} (T : Txt K mg) : ∃ ds, Vals (([.str ""] : List V).drop 0) ds ∧ Binds K T.fd_Rule_init P_Rule_init ds :=
  T.D_Rule_init.binds1 (ps := P_Rule_init) 2 0 (by simp) rfl fun _ _ _ _ _ _ _ us its hu hi => match us, its, hu, hi with | [_, _], [_], _, _ => ⟨_, rfl, rfl⟩
theorem bd_Rule_init_3 {K : PySem.W.Frag} {mg : Str → Option Value} (T : Txt K mg) : ∃ ds, Vals (([.str ""] : List V).drop 1) ds ∧ Binds K T.fd_Rule_init P_Rule_init ds :=
  T.D_Rule_init.binds1 (ps := P_Rule_init) 3 1 (by simp) rfl fun _ _ _ _ _ _ _ us its hu hi => match us, its, hu, hi with | [_, _, _], [_], _, _ => ⟨_, rfl, rfl⟩
theorem ok_BadSign_init {w : World} {K : PySem.W.Frag} {mg : Str → Option Value} {base : Heap} (T : Txt K mg) : FnOk prg w K mg base (L2.CX prg w) 1 T.f_BadSign_init T.fd_BadSign_init ["self", "at"] (spExI T.c_BadSign "at") :=
  exinit_ok T.o_BadSign T.F_BadSign_init rfl rfl rfl rfl rfl rfl rfl rfl rfl rfl (by decide +kernel) (by decide +kernel) (by decide +kernel) (by decide) (by decide) (msg_ok2 rfl (by decide) (by decide) (by decide +kernel)) (fun _ _ _ _ => rfl) (fun _ _ _ _ => rfl)
theorem ok_BadHeight_init {w : World} {K : PySem.W.Frag} {mg : Str → Option Value} {base : Heap} (T : Txt K mg) : FnOk prg w K mg base (L2.CX prg w) 1 T.f_BadHeight_init T.fd_BadHeight_init ["self", "height"] (spExI T.c_BadHeight "height") :=
  exinit_ok T.o_BadHeight T.F_BadHeight_init rfl rfl rfl rfl rfl rfl rfl rfl rfl rfl (by decide +kernel) (by decide +kernel) (by decide +kernel) (by decide) (by decide) (msg_ok3 rfl (by decide) (by decide) (by decide +kernel) (by decide +kernel)) (fun _ _ _ _ => rfl) (fun _ _ _ _ => rfl)
theorem ok_NoRule_init {w : World} {K : PySem.W.Frag} {mg : Str → Option Value} {base : Heap} (T : Txt K mg) : FnOk prg w K mg base (L2.CX prg w) 1 T.f_NoRule_init T.fd_NoRule_init ["self", "number"] (spExI T.c_NoRule "number") :=
  exinit_ok T.o_NoRule T.F_NoRule_init rfl rfl rfl rfl rfl rfl rfl rfl rfl rfl (by decide +kernel) (by decide +kernel) (by decide +kernel) (by decide) (by decide) (msg_ok2 rfl (by decide) (by decide) (by decide +kernel)) (fun _ _ _ _ => rfl) (fun _ _ _ _ => rfl)
theorem ok_BadLine_init {w : World} {K : PySem.W.Frag} {mg : Str → Option Value} {base : Heap} (T : Txt K mg) : FnOk prg w K mg base (L2.CX prg w) 1 T.f_BadLine_init T.fd_BadLine_init ["self", "line"] (spExI T.c_BadLine "line") :=
  exinit_ok T.o_BadLine T.F_BadLine_init rfl rfl rfl rfl rfl rfl rfl rfl rfl rfl (by decide +kernel) (by decide +kernel) (by decide +kernel) (by decide) (by decide) (msg_ok3 rfl (by decide) (by decide) (by decide +kernel) (by decide +kernel)) (fun _ _ _ _ => rfl) (fun _ _ _ _ => rfl)
theorem ok_BadBound_init {w : World} {K : PySem.W.Frag} {mg : Str → Option Value} {base : Heap} (T : Txt K mg) : FnOk prg w K mg base (L2.CX prg w) 1 T.f_BadBound_init T.fd_BadBound_init ["self", "most"] (spExI T.c_BadBound "most") :=
  exinit_ok T.o_BadBound T.F_BadBound_init rfl rfl rfl rfl rfl rfl rfl rfl rfl rfl (by decide +kernel) (by decide +kernel) (by decide +kernel) (by decide) (by decide) (msg_ok3 rfl (by decide) (by decide) (by decide +kernel) (by decide +kernel)) (fun _ _ _ _ => rfl) (fun _ _ _ _ => rfl)
theorem ok_Useless_init {w : World} {K : PySem.W.Frag} {mg : Str → Option Value} {base : Heap} (T : Txt K mg) : FnOk prg w K mg base (L2.CX prg w) 1 T.f_Useless_init T.fd_Useless_init ["self", "state"] (spExI T.c_Useless "state") :=
  exinit_ok T.o_Useless T.F_Useless_init rfl rfl rfl rfl rfl rfl rfl rfl rfl rfl (by decide +kernel) (by decide +kernel) (by decide +kernel) (by decide) (by decide) (msg_ok3 rfl (by decide) (by decide) (by decide +kernel) (by decide +kernel)) (fun _ _ _ _ => rfl) (fun _ _ _ _ => rfl)

end Rz
namespace Rz
open PySem PySem.Spec PyProof.Rows L2
/-- exactly one sign -/
def isSg (z : Str) : Bool := match z.cps.toList with
  | [c] => !oddC c
  | _ => false
def sp_is_sign : Sp := fun vs H Q _ => ∃ z : Str, vs = [.str z] ∧ z.length ≤ 1000000 ∧ Q (.bl (isSg z)) H
section
variable {w : World} {K : PySem.W.Frag} {mg : Str → Option Value} {base : Heap}
theorem sc_is_sign : FnScope N_is_sign P_is_sign (defScope s_is_sign) := ⟨rfl, rfl, rfl, by decide +kernel, rfl, by decide +kernel, by decide +kernel⟩
theorem ok_is_sign (T : Txt K mg) : FnOk prg w K mg base (L2.CX prg w) 1 T.f_is_sign T.fd_is_sign P_is_sign sp_is_sign := by
  refine Rz.Fun.okN T.F_is_sign sc_is_sign (fun vs H Q E h => ?_) (fun cdv A outer s H vs Q E hr h => ?_)
  · obtain ⟨z, rfl, _⟩ := h
    rfl
  obtain ⟨z, rfl, hz, k⟩ := h
  obtain ⟨tS, k_SIGNS⟩ := T.k_SIGNS
  refine ⟨_, (pss_one (ps_ret (pe_and (pe_cmpR op_eq (pe_callB call_len_str (by rfl) T.n_len PySem.boot_len (pa_cons (pv 0) pa_nil)) pe_int (nomark _)) (pe_one (pe_cmpR op_in_sign (pv 0) (pe_glob (v := .str abc) (by rfl) k_SIGNS ⟨_, rfl⟩) rfl))))), ?_⟩
  refine ⟨_, rfl, z, rfl, by rw [sizeLine_eq]; omega, rfl, ?_⟩
  obtain ⟨a⟩ := z
  obtain ⟨cs⟩ := a
  match cs, hz, k with
  | [], _, k => exact ⟨false, rfl, iteF k⟩
  | [c], _, k =>
    refine ⟨true, rfl, iteT ?_⟩
    refine ⟨_, rfl, c, abc, rfl, rfl, ?_⟩
    have e : isSg ⟨⟨[c]⟩⟩ = decide (c ∈ abc.cps.toList) := by
      show (!oddC c) = _
      unfold oddC
      simp
    rw [e] at k
    exact k
  | c :: d :: r, _, k =>
    refine ⟨false, ?_, iteF k⟩
    show V.bl (decide (V.int ((c :: d :: r).length : Nat) = V.int 1)) = V.bl false
    rw [decide_eq_false]
    intro e
    injection e with e
    simp at e
    omega
end
end Rz

namespace Rz
open PySem PySem.Spec PyProof.Rows L2
/-- nothing for a text; else BadSign with the first place -/
def sp_check_text (cB : Addr) : Sp := fun vs H Q E => ∃ z : Str, vs = [.str z] ∧ z.length ≤ 1000000 ∧ (fo z = none → ∀ H', Same H H' → Q .non H') ∧
  (∀ i, fo z = some i → ∀ H' d, Same H H' → H d = none → H' d = some (.xd [("at", .int (i : Nat))]) → E (.ref cB) (some d) H')
section
variable {w : World} {K : PySem.W.Frag} {mg : Str → Option Value} {base : Heap}
theorem sc_check_text : FnScope N_check_text P_check_text (defScope s_check_text) := ⟨rfl, rfl, rfl, by decide +kernel, rfl, by decide +kernel, by decide +kernel⟩
theorem ok_check_text (T : Txt K mg) : FnOk prg w K mg base (L2.CX prg w) 3 T.f_check_text T.fd_check_text P_check_text (sp_check_text T.c_BadSign) := by
  refine T.F_check_text.okX sc_check_text (fun vs H Q E h => ?_) (fun cdv A outer s H vs Q E hr h => ?_)
  · obtain ⟨z, rfl, _⟩ := h
    rfl
  obtain ⟨z, rfl, hz, kg, kb⟩ := h
  have nd := sc_check_text.nd
  obtain ⟨tS, k_SIGNS⟩ := T.k_SIGNS
  have tk : Takes (cxOf (L2.CX prg w) prg w K mg base N_check_text "check_text" (defScope s_check_text) T.f_check_text cdv A outer s H E) (fun cls d _ H' => E cls d H') := takes_of rfl rfl rfl rfl
  refine ⟨_, (pss_one (ps_for (passes_of rfl) rfl (pi_enumS (by rfl) T.n_enumerate (pa_cons (pv 0) pa_nil)) (pg_tup rfl (pgs_cons (pg_name (i := 1) nd rfl (Or.inl rfl)) (pgs_cons (pg_name (i := 2) nd rfl (Or.inl rfl)) pgs_nil)))
      (pss_one (ps_if (pt_cmpR op_notIn_sign (pv 2) (pe_glob (v := .str abc) (by rfl) k_SIGNS ⟨_, rfl⟩) rfl) (pss_one (ps_raise rfl tk (pmk_oex T.o_BadSign T.i_BadSign T.t_BadSign (ok_BadSign_init T) (hr.mono (by decide)) T.b_BadSign_init .nil passN (by rfl) T.m_BadSign (pa_cons (pv 1) pa_nil)))) pss_nil)))), ?_⟩
  refine ⟨_, rfl, z, rfl, for_it walk_enumS (fun i σ H' => ∃ v1 v2 : Option V, σ = [some (.str z), v1, v2] ∧ Same H H' ∧ ∀ (j c : Nat), j < i → z.cps.toList[j]? = some c → oddC c = false)
    ⟨_, _, rfl, Same.refl H, fun j c hj => absurd hj (Nat.not_lt_zero j)⟩ (fun _ _ _ _ _ => True.intro) ?_ ?_⟩
  · rintro i x σ H1 H2 hi ⟨v1, v2, rfl, R, hb⟩ ⟨Tp, c, rfl, hT, rfl, hc⟩
    have R2 : Same H (upd H1 Tp (.tup [.int (i : Nat), .str ⟨#[c]⟩])) := Rz.Same.new R hT
    refine ⟨Tp, _, rfl, SqT.of upd_same, rfl, _, _, rfl, _, _, rfl, rfl, ?_⟩
    refine ⟨_, rfl, c, abc, rfl, rfl, _, rfl, ?_⟩
    refine ite2 (fun ho => ?_) (fun ho => ?_)
    · have hfo := fo_some hc ho hb
      have hl := fo_lt hfo
      exact ⟨_, rfl, by show 1 ≤ 1000; decide, raise_fld (log_nat (by omega)) fun H2 d S2 hd e => kb i hfo H2 d (R2.trans S2) (R2.free hd) e⟩
    · refine ⟨_, _, rfl, R2, fun j c2 hj h2 => ?_⟩
      by_cases e : j < i
      · exact hb j c2 e h2
      · have e3 : j = i := by omega
        subst e3
        rw [hc] at h2
        cases h2
        simpa [oddC] using ho
  · rintro σ H1 ⟨v1, v2, rfl, R, hb⟩
    exact kg (fo_none fun j c hj => hb j c (by
      have := (List.getElem?_eq_some_iff.mp hj).1
      simpa using this) hj) H1 R
end
end Rz

namespace Rz
open PySem PySem.Spec PyProof.Rows L2
def sp_decoded : Sp := fun vs H Q _ => ∃ z : Str, vs = [.str z] ∧ Q (.str z) H
section
variable {w : World} {K : PySem.W.Frag} {mg : Str → Option Value} {base : Heap}
theorem sc_decoded : FnScope N_decoded P_decoded (defScope s_decoded) := ⟨rfl, rfl, rfl, by decide +kernel, rfl, by decide +kernel, by decide +kernel⟩
theorem ok_decoded (T : Txt K mg) : FnOk prg w K mg base (L2.CX prg w) 1 T.f_decoded T.fd_decoded P_decoded sp_decoded := by
  refine Rz.Fun.okN T.F_decoded sc_decoded (fun vs H Q E h => ?_) (fun cdv A outer s H vs Q E hr h => ?_)
  · obtain ⟨z, rfl, _⟩ := h
    rfl
  obtain ⟨z, rfl, k⟩ := h
  refine ⟨_, (pss_cons (ps_if (pt_val (pe_callB call_isi (by rfl) T.n_isinstance (by decide +kernel) (pa_cons (pv 0) (pa_cons (pe_bltn (v := .ty "bytes") (by rfl) T.n_bytes (by decide +kernel) rfl) pa_nil)))) pss_never pss_nil)
    (pss_one (ps_ret (pv 0)))), ?_⟩
  refine ⟨_, rfl, _, _, .type "str", .type "bytes", false, rfl, .ty _, .base (.str z), kit_ty (by decide +kernel), false, rfl, ?_⟩
  exact iteF ⟨_, rfl, k⟩
end
end Rz

namespace Rz
open PySem PySem.Spec PyProof.Rows L2
/-- nothing for a height from 0 to g; else BadHeight with it -/
def sp_check_height (cH : Addr) : Sp := fun vs H Q E => ∃ h g : Int, vs = [.int h, .int g] ∧ h.natAbs < 2 ^ 64 ∧ (0 ≤ h ∧ h ≤ g → Q .non H) ∧
  (¬ (0 ≤ h ∧ h ≤ g) → ∀ H' d, Same H H' → H d = none → H' d = some (.xd [("height", .int h)]) → E (.ref cH) (some d) H')
section
variable {w : World} {K : PySem.W.Frag} {mg : Str → Option Value} {base : Heap}
theorem sc_check_height : FnScope N_check_height P_check_height (defScope s_check_height) := ⟨rfl, rfl, rfl, by decide +kernel, rfl, by decide +kernel, by decide +kernel⟩
theorem ok_check_height (T : Txt K mg) : FnOk prg w K mg base (L2.CX prg w) 3 T.f_check_height T.fd_check_height P_check_height (sp_check_height T.c_BadHeight) := by
  refine T.F_check_height.okX sc_check_height (fun vs H Q E h => ?_) (fun cdv A outer s H vs Q E hr h => ?_)
  · obtain ⟨h, g, rfl, _⟩ := h
    rfl
  obtain ⟨h, g, rfl, hs, kg, kb⟩ := h
  have tk : Takes (cxOf (L2.CX prg w) prg w K mg base N_check_height "check_height" (defScope s_check_height) T.f_check_height cdv A outer s H E) (fun cls d _ H' => E cls d H') := takes_of rfl rfl rfl rfl
  refine ⟨_, (pss_one (ps_if (pt_not (pt_chain op_le op_le pe_int (pv 0) (pv 1))) (pss_one (ps_raise rfl tk (pmk_oex T.o_BadHeight T.i_BadHeight T.t_BadHeight (ok_BadHeight_init T) (hr.mono (by decide)) T.b_BadHeight_init .nil passN (by rfl) T.m_BadHeight (pa_cons (pv 0) pa_nil)))) pss_nil)), ?_⟩
  have bad : ¬ (0 ≤ h ∧ h ≤ g) → _ := fun hb => raise_fld (C := T.c_BadHeight) (fld := "height") (n := h) (H1 := H) (Q := E) (log_small hs (by decide)) fun H2 d S2 hd e => kb hb H2 d S2 hd e
  refine ⟨_, rfl, _, _, rfl, rfl, decide (0 ≤ h), rfl, ?_⟩
  by_cases h0 : 0 ≤ h
  · rw [decide_eq_true h0]
    refine iteT ⟨_, rfl, _, _, rfl, rfl, decide (h ≤ g), rfl, ?_⟩
    by_cases h1 : h ≤ g
    · rw [decide_eq_true h1]
      exact iteF (kg ⟨h0, h1⟩)
    · rw [decide_eq_false h1]
      exact iteT ⟨_, rfl, by show 1 ≤ 1000; decide, bad fun z => h1 z.2⟩
  · rw [decide_eq_false h0]
    refine iteF ⟨false, rfl, ?_⟩
    exact iteT ⟨_, rfl, by show 1 ≤ 1000; decide, bad fun z => h0 z.1⟩
end
end Rz

namespace Rz
open PySem PySem.Spec PyProof.Rows L2
/-- nothing for a bound from 0 to g; else BadBound with it -/
def sp_check_bound (cH : Addr) : Sp := fun vs H Q E => ∃ h g : Int, vs = [.int h, .int g] ∧ h.natAbs < 2 ^ 64 ∧ (0 ≤ h ∧ h ≤ g → Q .non H) ∧
  (¬ (0 ≤ h ∧ h ≤ g) → ∀ H' d, Same H H' → H d = none → H' d = some (.xd [("most", .int h)]) → E (.ref cH) (some d) H')
section
variable {w : World} {K : PySem.W.Frag} {mg : Str → Option Value} {base : Heap}
theorem sc_check_bound : FnScope N_check_bound P_check_bound (defScope s_check_bound) := ⟨rfl, rfl, rfl, by decide +kernel, rfl, by decide +kernel, by decide +kernel⟩
theorem ok_check_bound (T : Txt K mg) : FnOk prg w K mg base (L2.CX prg w) 3 T.f_check_bound T.fd_check_bound P_check_bound (sp_check_bound T.c_BadBound) := by
  refine T.F_check_bound.okX sc_check_bound (fun vs H Q E h => ?_) (fun cdv A outer s H vs Q E hr h => ?_)
  · obtain ⟨h, g, rfl, _⟩ := h
    rfl
  obtain ⟨h, g, rfl, hs, kg, kb⟩ := h
  have tk : Takes (cxOf (L2.CX prg w) prg w K mg base N_check_bound "check_bound" (defScope s_check_bound) T.f_check_bound cdv A outer s H E) (fun cls d _ H' => E cls d H') := takes_of rfl rfl rfl rfl
  refine ⟨_, (pss_one (ps_if (pt_not (pt_chain op_le op_le pe_int (pv 0) (pv 1))) (pss_one (ps_raise rfl tk (pmk_oex T.o_BadBound T.i_BadBound T.t_BadBound (ok_BadBound_init T) (hr.mono (by decide)) T.b_BadBound_init .nil passN (by rfl) T.m_BadBound (pa_cons (pv 0) pa_nil)))) pss_nil)), ?_⟩
  have bad : ¬ (0 ≤ h ∧ h ≤ g) → _ := fun hb => raise_fld (C := T.c_BadBound) (fld := "most") (n := h) (H1 := H) (Q := E) (log_small hs (by decide)) fun H2 d S2 hd e => kb hb H2 d S2 hd e
  refine ⟨_, rfl, _, _, rfl, rfl, decide (0 ≤ h), rfl, ?_⟩
  by_cases h0 : 0 ≤ h
  · rw [decide_eq_true h0]
    refine iteT ⟨_, rfl, _, _, rfl, rfl, decide (h ≤ g), rfl, ?_⟩
    by_cases h1 : h ≤ g
    · rw [decide_eq_true h1]
      exact iteF (kg ⟨h0, h1⟩)
    · rw [decide_eq_false h1]
      exact iteT ⟨_, rfl, by show 1 ≤ 1000; decide, bad fun z => h1 z.2⟩
  · rw [decide_eq_false h0]
    refine iteF ⟨false, rfl, ?_⟩
    exact iteT ⟨_, rfl, by show 1 ≤ 1000; decide, bad fun z => h0 z.1⟩
end
end Rz

namespace Rz
open PySem PySem.Spec PyProof.Rows L2
/-- what becomes of Rule(l, r) -/
inductive RD | sign (i : Nat) | bad | good
def rd (l r : Str) : RD := match fo l with
  | some i => .sign i
  | none => match fo r with
    | some i => .sign i
    | none => if l.length < 1 ∨ l.length > 4 ∨ r.length > 4 then .bad else .good
def ruleF (l r : Str) : List (Str × V) := putF "right" (.str r) (putF "left" (.str l) [])
def sp_Rule_init (cB cR cC : Addr) : Sp := fun vs H Q E => ∃ (p dx : Addr) (l r : Str), vs = [.ref p, .str l, .str r] ∧ l.length ≤ 1000000 ∧ r.length ≤ 1000000 ∧ H p = some (.ins cC dx []) ∧
  (match rd l r with
    | .sign i => ∀ H' d, But [p] H H' → H d = none → H' d = some (.xd [("at", .int (i : Nat))]) → E (.ref cB) (some d) H'
    | .bad => ∀ H', But [p] H H' → E (.ref cR) none H'
    | .good => ∀ H', But [p] H H' → H' p = some (.ins cC dx (ruleF l r)) → Q .non H')
section
variable {w : World} {K : PySem.W.Frag} {mg : Str → Option Value} {base : Heap}
theorem sc_Rule_init : FnScope N_Rule_init P_Rule_init (defScope s_Rule_init) := ⟨rfl, rfl, rfl, by decide +kernel, rfl, by decide +kernel, by decide +kernel⟩
theorem ok_Rule_init (T : Txt K mg) : FnOk prg w K mg base (L2.CX prg w) 4 T.f_Rule_init T.fd_Rule_init P_Rule_init (sp_Rule_init T.c_BadSign T.c_BadRule T.c_Rule) := by
  refine T.D_Rule_init.ok sc_Rule_init (fun vs H Q E h => ?_) (fun cdv A outer s H vs Q E hr h => ?_)
  · obtain ⟨p, dx, l, r, rfl, _⟩ := h
    rfl
  obtain ⟨p, dx, l, r, rfl, hl, hr4, hp, k⟩ := h
  have nd := sc_Rule_init.nd
  obtain ⟨tM, k_MOST_SIGNS⟩ := T.k_MOST_SIGNS
  have tk : Takes (cxOf (L2.CX prg w) prg w K mg base N_Rule_init "Rule.__init__" (defScope s_Rule_init) T.f_Rule_init cdv A outer s H E) (fun cls d _ H' => E cls d H') := takes_of rfl rfl rfl rfl
  refine ⟨_, (pss_cons (ps_expr (pe_fn (ok_check_text T) (hr.mono (by decide)) (by rfl) T.m_check_text T.F_check_text.kp T.b_check_text .nil (passAt tk) (pa_cons (pv 1) pa_nil)))
    (pss_cons (ps_expr (pe_fn (ok_check_text T) (hr.mono (by decide)) (by rfl) T.m_check_text T.F_check_text.kp T.b_check_text .nil (passAt tk) (pa_cons (pv 2) pa_nil)))
    (pss_cons (ps_if (PW.pt (pw_or (pt_not (pt_truth (pv 1) (by intro _; rfl))) (pw_or (pt_cmpR op_gt (pe_callB call_len_str (by rfl) T.n_len PySem.boot_len (pa_cons (pv 1) pa_nil)) (pe_glob (v := .int 4) (by rfl) k_MOST_SIGNS ⟨_, rfl⟩) (nomark _)) (pw_or1 (pt_cmpR op_gt (pe_callB call_len_str (by rfl) T.n_len PySem.boot_len (pa_cons (pv 2) pa_nil)) (pe_glob (v := .int 4) (by rfl) k_MOST_SIGNS ⟨_, rfl⟩) (nomark _)))))) (pss_one (ps_raise rfl tk (pmk_own PySem.F.excBase_ValueError T.o_BadRule T.m_BadRule T.kp_BadRule (raises_own T.r_BadRule T.t_BadRule) rfl))) pss_nil)
    (pss_cons (ps_fld (pv 0) (pv 1) rfl)
    (pss_one (ps_fld (pv 0) (pv 2) rfl)))))), ?_⟩
  have keepP : ∀ {H' : Hp}, Same H H' → H' p = some (.ins T.c_Rule dx []) := fun S => S _ _ hp
  refine ⟨_, rfl, l, rfl, hl, fun f1 H1 S1 => ?_, fun i f1 H1 d S1 hd e => ?_⟩
  · refine ⟨_, rfl, r, rfl, hr4, fun f2 H2 S2 => ?_, fun j i H2 d S2 hd e => ?_⟩
    · have S3 := S1.trans S2
      have g := keepP S3
      have hll : l.length ≤ sizeLine := by rw [sizeLine_eq]; omega
      have hlr : r.length ≤ sizeLine := by rw [sizeLine_eq]; omega
      unfold rd at k
      rw [f1] at k
      dsimp only at k
      rw [f2] at k
      dsimp only at k
      have bad : (l.length < 1 ∨ l.length > 4 ∨ r.length > 4) → E (.ref T.c_BadRule) none H2 := fun h => by
        rw [if_pos h] at k
        exact k H2 (But.of S3)
      have good : ¬ (l.length < 1 ∨ l.length > 4 ∨ r.length > 4) → tSeq (sFld K (tVar 0) (tVar 1) "left") (sFld K (tVar 0) (tVar 2) "right") { nx := fun _ H' => Q .non H', rt := Q } [some (.ref p), some (.str l), some (.str r)] H2 := fun h => by
        rw [if_neg h] at k
        refine ⟨_, rfl, _, rfl, p, _, dx, _, rfl, g, T.cl_Rule, T.na_Rule_left, by show 0 < 1000; decide, ?_⟩
        refine ⟨_, rfl, _, rfl, p, _, dx, _, rfl, upd_same, T.cl_Rule, T.na_Rule_right, by show 1 < 1000; decide, ?_⟩
        exact k _ (((But.of S3).upd (.inl (by simp))).upd (.inl (by simp))) upd_same
      refine ⟨_, rfl, _, ⟨hll, rfl⟩, ?_⟩
      show if (!((l.length : Int) != 0)) = true then _ else _
      refine ite2 (fun h => iteT (bad (.inl (by
        have h2 : ((l.length : Int) != 0) = false := by simpa using h
        have h3 : (l.length : Int) = 0 := by simpa using h2
        omega)))) (fun h => ?_)
      have hl0 : ¬ l.length < 1 := fun z => h (by
        have e : l.length = 0 := by omega
        rw [e]; rfl)
      refine ⟨_, rfl, l, rfl, hll, _, _, rfl, rfl, _, rfl, ?_⟩
      refine ite2 (fun h => iteT (bad (.inr (.inl (by have := of_decide_eq_true h; omega))))) (fun h => ?_)
      have hl4 : ¬ l.length > 4 := fun z => h (decide_eq_true (by omega))
      refine ⟨_, rfl, r, rfl, hlr, _, _, rfl, rfl, _, rfl, ?_⟩
      refine ite2 (fun h => bad (.inr (.inr (by have := of_decide_eq_true h; omega)))) (fun h => ?_)
      have hr5 : ¬ r.length > 4 := fun z => h (decide_eq_true (by omega))
      exact good (by omega)
    · have S3 := S1.trans S2
      unfold rd at k
      rw [f1] at k
      dsimp only at k
      rw [i] at k
      exact k H2 d (But.of S3) (S1.free hd) e
  · unfold rd at k
    rw [f1] at k
    exact k H1 d (But.of S1) hd e
end
end Rz

namespace Rz
open PySem PySem.Spec PyProof.Rows L2
/-- a rule stands at q -/
def RuAt (cC : Addr) (H : Hp) (q : Addr) (l r : Str) : Prop := ∃ dq, H q = some (.ins cC dq (ruleF l r))
theorem RuAt.same {cC : Addr} {H H' : Hp} {q : Addr} {l r : Str} (h : RuAt cC H q l r) (S : Same H H') : RuAt cC H' q l r := let ⟨d, e⟩ := h; ⟨d, S _ _ e⟩
theorem RuAt.but {cC : Addr} {D : List Addr} {H H' : Hp} {q : Addr} {l r : Str} (h : RuAt cC H q l r) (B : But D H H') (n : q ∉ D) : RuAt cC H' q l r := let ⟨d, e⟩ := h; ⟨d, B.at e n⟩
end Rz

namespace Rz
open PySem PySem.Spec PyProof.Rows L2
/-- what Rule(l, r) asks for where it can be made -/
theorem rule_new {cB cR cC : Addr} {H : Hp} {Q : VK} {E : XK} {l r : Str} {vs dvs : List V} (e : vs ++ dvs = [.str l, .str r]) (hl : l.length ≤ 1000000) (hr : r.length ≤ 1000000) (hg : rd l r = .good)
    (k : ∀ (H' : Hp) (q : Addr), Same H H' → H q = none → RuAt cC H' q l r → Q (.ref q) H') : MkR cC (sp_Rule_init cB cR cC) dvs E vs H Q := by
  rw [mkR_eq, e]
  intro x dx hx hdx ndx
  refine ⟨x, dx, l, r, rfl, hl, hr, upd_same, ?_⟩
  rw [hg]
  intro H4 B e4
  refine ⟨rfl, k H4 x (fun b o e => ?_) hx ⟨dx, e4⟩⟩
  exact B b o (by have := ne_of_none e hx; simpa using this) (by rw [upd_ne (ne_of_none e hx), upd_ne (ne_of_none e hdx)]; exact e)
end Rz

namespace Rz
open PySem PySem.Spec PyProof.Rows L2
def ruleT (l r : Str) : Str := Str.empty ++ l ++ ":" ++ r
def sp_Rule_str (cC : Addr) : Sp := fun vs H Q _ => ∃ (p dx : Addr) (l r : Str), vs = [.ref p] ∧ l.length ≤ 1000000 ∧ r.length ≤ 1000000 ∧ H p = some (.ins cC dx (ruleF l r)) ∧ Q (.str (ruleT l r)) H
theorem ruleF_left (l r : Str) : (ruleF l r).lookup ("left" : Str) = some (.str l) := by
  unfold ruleF
  rw [lookup_putF, if_neg (by decide), lookup_putF, if_pos rfl]
theorem ruleF_right (l r : Str) : (ruleF l r).lookup ("right" : Str) = some (.str r) := by
  unfold ruleF
  rw [lookup_putF, if_pos rfl]
section
variable {w : World} {K : PySem.W.Frag} {mg : Str → Option Value} {base : Heap}
theorem sc_Rule_str : FnScope N_Rule_str P_Rule_str (defScope s_Rule_str) := ⟨rfl, rfl, rfl, by decide +kernel, rfl, by decide +kernel, by decide +kernel⟩
theorem ok_Rule_str (T : Txt K mg) : FnOk prg w K mg base (L2.CX prg w) 1 T.f_Rule_str T.fd_Rule_str P_Rule_str (sp_Rule_str T.c_Rule) := by
  refine Rz.Fun.okN T.F_Rule_str sc_Rule_str (fun vs H Q E h => ?_) (fun cdv A outer s H vs Q E hr h => ?_)
  · obtain ⟨p, dx, l, r, rfl, _⟩ := h
    rfl
  obtain ⟨p, dx, l, r, rfl, hl, hr1, hp, k⟩ := h
  refine ⟨_, (pss_one (ps_ret (pe_joined (.cons (pe_fmt (pe_fld (pv 0) rfl)) (.cons pe_str (.cons (pe_fmt (pe_fld (pv 0) rfl)) .nil)))))), ?_⟩
  refine ⟨_, rfl, p, _, dx, _, _, rfl, hp, T.cl_Rule, T.na_Rule_left, ruleF_left l r, .inl ⟨l, rfl, by rw [sizeLine_eq]; omega, l, rfl, ?_, ":", rfl, ?_, ?_⟩⟩
  · rw [Str.length_append, sizeLine_eq]
    show 0 + l.length ≤ _
    omega
  · rw [Str.length_append, Str.length_append, sizeLine_eq]
    show 0 + l.length + 1 ≤ _
    omega
  refine ⟨_, rfl, p, _, dx, _, _, rfl, hp, T.cl_Rule, T.na_Rule_right, ruleF_right l r, .inl ⟨r, rfl, by rw [sizeLine_eq]; omega, r, rfl, ?_, k⟩⟩
  rw [Str.length_append, Str.length_append, Str.length_append, sizeLine_eq]
  show 0 + l.length + 1 + r.length ≤ _
  omega
end
end Rz

namespace Rz
open PySem PySem.Spec PyProof.Rows L2
/-! ### books -/
abbrev Ru := Str × Str
/-- the objects ts are the rules rs -/
def RuL (cC : Addr) (H : Hp) (ts : List Addr) (rs : List Ru) : Prop := Paired (fun (t : Addr) (r : Ru) => RuAt cC H t r.1 r.2) ts rs
theorem RuL.same {cC : Addr} {H H' : Hp} (S : Same H H') : ∀ {ts : List Addr} {rs : List Ru}, RuL cC H ts rs → RuL cC H' ts rs
  | _, _, .nil => .nil
  | _, _, .cons e r => .cons (RuAt.same e S) (RuL.same S r)
theorem RuL.len {cC : Addr} {H : Hp} {ts : List Addr} {rs : List Ru} (h : RuL cC H ts rs) : ts.length = rs.length := Paired.length h
theorem RuL.but {cC : Addr} {D : List Addr} {H H' : Hp} (B : But D H H') (n : ∀ x ∈ D, ∀ dq l r, H x ≠ some (.ins cC dq (ruleF l r))) : ∀ {ts : List Addr} {rs : List Ru}, RuL cC H ts rs → RuL cC H' ts rs
  | _, _, .nil => .nil
  | _, _, .cons ⟨dq, e⟩ r => .cons ⟨dq, B _ _ (fun z => n _ z _ _ _ e) e⟩ (RuL.but B n r)
theorem RuL.append {cC : Addr} {H : Hp} : ∀ {ts us : List Addr} {rs qs : List Ru}, RuL cC H ts rs → RuL cC H us qs → RuL cC H (ts ++ us) (rs ++ qs)
  | _, _, _, _, .nil, s => s
  | _, _, _, _, .cons e t, s => .cons e (RuL.append t s)
theorem RuL.take {cC : Addr} {H : Hp} : ∀ {ts : List Addr} {rs : List Ru} (n : Nat), RuL cC H ts rs → RuL cC H (ts.take n) (rs.take n)
  | _, _, 0, _ => .nil
  | _, _, _ + 1, .nil => .nil
  | _, _, n + 1, .cons e r => .cons e (RuL.take n r)
theorem RuL.drop {cC : Addr} {H : Hp} : ∀ {ts : List Addr} {rs : List Ru} (n : Nat), RuL cC H ts rs → RuL cC H (ts.drop n) (rs.drop n)
  | _, _, 0, h => h
  | _, _, _ + 1, .nil => .nil
  | _, _, n + 1, .cons _ r => RuL.drop n r
theorem RuL.get {cC : Addr} {H : Hp} : ∀ {ts : List Addr} {rs : List Ru} {i : Nat} {t : Addr}, RuL cC H ts rs → ts[i]? = some t → ∃ r, rs[i]? = some r ∧ RuAt cC H t r.1 r.2
  | _, _, i, t, .nil, h => by cases h
  | _, _, 0, t, .cons e r, h => by
    have z := Option.some.inj h
    subst z
    exact ⟨_, rfl, e⟩
  | _, _, i + 1, t, .cons e r, h => RuL.get (i := i) r (by simpa using h)
/-- a book: its tuple stands at t -/
def BkAt (cB cC : Addr) (H : Hp) (b t : Addr) (rs : List Ru) : Prop := ∃ dx ts, H b = some (.ins cB dx [("_rules", .ref t)]) ∧ H t = some (.tup (ts.map V.ref)) ∧ RuL cC H ts rs
theorem BkAt.same {cB cC : Addr} {H H' : Hp} {b t : Addr} {rs : List Ru} (h : BkAt cB cC H b t rs) (S : Same H H') : BkAt cB cC H' b t rs := let ⟨dx, ts, h1, h2, h3⟩ := h; ⟨dx, ts, S _ _ h1, S _ _ h2, h3.same S⟩
theorem rule_no_book {l r : Str} {v : V} : ruleF l r ≠ [(("_rules" : Str), v)] := fun h => by
  have e := congrArg List.length h
  cases e
/-- what changes is a list, or another book -/
theorem BkAt.but {cB cC : Addr} {D : List Addr} {H H' : Hp} {b t : Addr} {rs : List Ru} (h : BkAt cB cC H b t rs) (B : But D H H') (nb : b ∉ D) (n : ∀ x ∈ D, (∃ xs, H x = some (.lst xs)) ∨ ∃ dx v, H x = some (.ins cB dx [("_rules", v)])) : BkAt cB cC H' b t rs := by
  obtain ⟨dx, ts, h1, h2, h3⟩ := h
  refine ⟨dx, ts, B _ _ nb h1, B _ _ (fun z => ?_) h2, h3.but B fun x hx dq l r e => ?_⟩
  · rcases n t z with ⟨xs, e⟩ | ⟨d, v, e⟩
    · rw [e] at h2; cases h2
    · rw [e] at h2; cases h2
  · rcases n x hx with ⟨xs, e2⟩ | ⟨d, v, e2⟩
    · rw [e2] at e; cases e
    · rw [e2] at e
      have q := Option.some.inj e
      injection q with _ _ q3
      exact rule_no_book q3.symm
def GoodB (rs : List Ru) : Prop := ∀ r ∈ rs, rd r.1 r.2 = .good
theorem good_len {r : Ru} (h : rd r.1 r.2 = .good) : r.1.length ≤ 4 ∧ r.2.length ≤ 4 ∧ 1 ≤ r.1.length := by
  unfold rd at h
  split at h
  · cases h
  · split at h
    · cases h
    · split at h
      · cases h
      · omega
/-- a comprehension over a tuple of rules -/
theorem lc_rules {K : PySem.W.Frag} {cC l : Addr} {ts : List Addr} {rs : List Ru} {g : TG} {te : TE} {vs : List Nat} {σ : L2.St} {H1 : Hp} {D : Addr} {Qd : Hp → Prop} (f : Ru → V) (hl : H1 l = some (.tup (ts.map V.ref))) (hP : RuL cC H1 ts rs) (hz : rs.length ≤ sizeLine) (hD : H1 D = none)
    (body : ∀ (t : Addr) (r : Ru) (H : Hp) (Q : VK), r ∈ rs → Same H1 H → RuAt cC H t r.1 r.2 → (∀ H4, Same H H4 → Q (f r) H4) → g (.ref t) (wipe σ vs) H fun σ2 H2 => wipe σ2 vs = wipe σ vs ∧ te σ2 H2 Q)
    (hd : ∀ H, Same H1 H → H D = some (.lst (rs.map f)) → Qd H) :
    ∃ W : Nat → Nat → Hp → Prop, (∃ m, W 0 m (upd H1 D (.lst []))) ∧ ∀ i m H, W i m H →
      ((Itt K l).stop i H ∧ Qd H) ∨ ((Itt K l).go i H ∧ ∃ Nx : Hp → Prop, (∀ H', Nx H' → ∃ m', m' < m ∧ W (i + 1) m' H') ∧ ∀ x H', (Itt K l).yld i H x H' → g x (wipe σ vs) H' fun σ2 H2 => wipe σ2 vs = wipe σ vs ∧ tYes σ2 H2 fun b H3 =>
        if b = true then te σ2 H3 fun y H4 => ∃ acc, H4 D = some (.lst acc) ∧ acc.length < sizeLine ∧ Nx (upd H4 D (.lst (acc ++ [y]))) else Nx H3) := by
  refine lc_tup (K := K) (a := l) (xs := ts.map V.ref) (fun i H => Same H1 H ∧ H D = some (.lst ((rs.take i).map f))) ⟨Rz.Same.new (Same.refl H1) hD, upd_same⟩ (fun i H _ h => SqT.of (h.1 _ _ hl)) (fun i x H hx h => ?_) (fun H h => hd H h.1 ?_)
  · obtain ⟨S, e⟩ := h
    obtain ⟨t, ht, rfl⟩ := refs_get hx
    obtain ⟨p, hp, h2⟩ := hP.get ht
    have hi : i < rs.length := (List.getElem?_eq_some_iff.mp hp).1
    refine body t p H _ (List.mem_of_getElem? hp) S (h2.same S) fun H4 S4 => ⟨_, S4 _ _ e, ?_, Rz.Same.upd (S.trans S4) hD, ?_⟩
    · rw [List.length_map, List.length_take]
      omega
    · rw [upd_same, List.take_add_one, hp, List.map_append]
      rfl
  · have := h.2
    rw [List.length_map, hP.len, List.take_length] at this
    exact this
end Rz

namespace Rz
open PySem PySem.Spec PyProof.Rows L2
theorem fold_least : ∀ {ns : List Int} {m : Int}, (∀ y ∈ ns, y ≤ m) → 0 ≤ m → ns.foldr max 0 ≤ m
  | [], m, _, h0 => h0
  | n :: ns, m, h, h0 => by
    have a := h n List.mem_cons_self
    have b := fold_least (ns := ns) (fun y hy => h y (List.mem_cons_of_mem _ hy)) h0
    show max n (ns.foldr max 0) ≤ m
    omega
theorem fold_above : ∀ {ns : List Int} {m : Int}, m ∈ ns → m ≤ ns.foldr max 0
  | n :: ns, m, h => by
    show m ≤ max n (ns.foldr max 0)
    rcases List.mem_cons.mp h with e | e
    · omega
    · have := fold_above e
      omega
theorem fold_pos : ∀ {ns : List Int}, 0 ≤ ns.foldr max 0
  | [] => Int.le_refl _
  | n :: ns => by
    have := fold_pos (ns := ns)
    show 0 ≤ max n (ns.foldr max 0)
    omega
theorem fold_most {ns : List Int} {m : Int} (hm : m ∈ ns) (h : ∀ y ∈ ns, y ≤ m) (h0 : 0 ≤ m) : ns.foldr max 0 = m :=
  Int.le_antisymm (fold_least h h0) (fold_above hm)
end Rz

namespace Rz
open PySem PySem.Spec PyProof.Rows L2
/-- the rules by position -/
def sp_Book_init (cF cB : Addr) : Sp := fun vs H Q E => ∃ (x dx : Addr) (ys : List V), vs = V.ref x :: ys ∧ ys.length ≤ 1000 ∧ H x = some (.ins cB dx []) ∧
  ∀ t, H t = none → (ys.length ≤ 6 → ∀ H', But [x] (upd H t (.tup ys)) H' → H' x = some (.ins cB dx [("_rules", .ref t)]) → Q .non H') ∧ (6 < ys.length → E (.ref cF) none (upd H t (.tup ys)))
section
variable {w : World} {K : PySem.W.Frag} {mg : Str → Option Value} {base : Heap}
theorem sc_Book_init : FnScope N_Book_init P_Book_init (defScope s_Book_init) := ⟨rfl, rfl, rfl, by decide +kernel, rfl, by decide +kernel, by decide +kernel⟩
theorem ok_Book_init (T : Txt K mg) : FnR prg w K mg base (L2.CX prg w) 3 T.f_Book_init (sp_Book_init T.c_BookFull T.c_Book) := by
  obtain ⟨oc, od, kV, doc, pm, an, cdv, ct, osl, efd, lk, hcd⟩ := T.F_Book_init.ex
  rw [efd] at lk
  refine FnR.imp (StX.fn_star (ps := ["self"]) (pv := "rules") (k := 2) lk hcd sc_Book_init StX.cxUp (StX.bind_star1 (B := fun us => bindArgs (PySem.W.fnOf "__init__" "Book.__init__" (defArgs s_Book_init) (defBody s_Book_init) (defScope s_Book_init) .none kV doc pm an cdv ct) ⟨us, []⟩) (p1 := "self") (pv := "rules") (fun a => rfl) (fun a r rs => rfl)) (sp := fun vs H Q E => ∃ (x dx t : Addr) (ys : List V), vs = [.ref x, .ref t] ∧ H x = some (.ins T.c_Book dx []) ∧ H t = some (.tup ys) ∧ ys.length ≤ 1000 ∧
    (ys.length ≤ 6 → ∀ H', But [x] H H' → H' x = some (.ins T.c_Book dx [("_rules", .ref t)]) → Q .non H') ∧ (6 < ys.length → E (.ref T.c_BookFull) none H)) (fun A outer s H vs Q E hr h => ?_)) (fun vs H Q E h => ?_)
  · obtain ⟨x, dx, t, ys, rfl, hx, ht, hz, k1, k2⟩ := h
    have nd := sc_Book_init.nd
    obtain ⟨tM, k_MOST_RULES⟩ := T.k_MOST_RULES
    have tk : Takes (cxOf (L2.CX prg w) prg w K mg base N_Book_init "Book.__init__" (defScope s_Book_init) T.f_Book_init cdv A outer s H E) (fun cls d _ H' => E cls d H') := takes_of rfl rfl rfl rfl
    refine ⟨_, (pss_cons (ps_if (pt_cmpR op_gt (pe_callB call_len_seq (by rfl) T.n_len PySem.boot_len (pa_cons (pv 1) pa_nil)) (pe_glob (v := .int 6) (by rfl) k_MOST_RULES ⟨_, rfl⟩) (nomark _)) (pss_one (ps_raise rfl tk (pmk_own PySem.F.excBase_ValueError T.o_BookFull T.m_BookFull T.kp_BookFull (raises_own T.r_BookFull T.t_BookFull) rfl))) pss_nil)
      (pss_one (ps_fld (pv 0) (pe_callTy call_tuple_of (by rfl) T.n_tuple (by decide +kernel) (pa_cons (pv 1) pa_nil)) rfl))), ?_⟩
    refine ⟨_, rfl, t, ys, rfl, .inr (SqT.of ht), _, _, rfl, rfl, _, rfl, ?_⟩
    refine ite2 (fun h => ?_) (fun h => ?_)
    · exact k2 (by have := of_decide_eq_true h; omega)
    · refine ⟨_, rfl, t, ys, rfl, .inr ⟨SqT.of ht, _, rfl, x, _, dx, _, rfl, hx, T.cl_Book, T.na_Book__rules, by show 0 < 1000; decide, ?_⟩⟩
      exact k1 (by
        have h2 : ¬ ((ys.length : Int) > 6) := fun z => h (decide_eq_true z)
        omega) _ ((But.refl [x] H).upd (.inl (by simp))) upd_same
  · obtain ⟨x, dx, ys, rfl, hz, hx, hk⟩ := h
    refine ⟨[.ref x], ys, rfl, rfl, by rw [sizeLine_eq]; omega, fun p hp => ?_⟩
    obtain ⟨k1, k2⟩ := hk p hp
    exact ⟨x, dx, p, ys, rfl, by rw [upd_ne (ne_of_none hx hp)]; exact hx, upd_same, hz, k1, k2⟩
/-- a new book -/
theorem book_new {cF cB cC : Addr} {H : Hp} {Q : VK} {E : XK} {vs : List V} {ts : List Addr} {rs : List Ru} (ev : vs = ts.map V.ref) (h6 : rs.length ≤ 6) (hP : RuL cC H ts rs) (k : ∀ (H' : Hp) (b t : Addr), Same H H' → H b = none → H t = none → BkAt cB cC H' b t rs → Q (.ref b) H') :
    MkS cB (sp_Book_init cF cB) E vs H Q := by
  subst ev
  rw [mkS_eq]
  intro x dx hx hdx ndx
  have hl := hP.len
  refine ⟨x, dx, ts.map V.ref, rfl, by rw [List.length_map]; omega, upd_same, fun t ht => ⟨fun _ H' B e => ?_, fun h => by rw [List.length_map] at h; omega⟩⟩
  have ht0 : H t = none := by
    cases q : H t with
    | none => rfl
    | some o => rw [upd_ne (ne_of_none q hx), upd_ne (ne_of_none q hdx), q] at ht; cases ht
  have ntx : t ≠ x := fun z => by rw [z, upd_same] at ht; cases ht
  have S : Same H H' := fun b o e0 => B b o (by have := ne_of_none e0 hx; simpa using this) (by rw [upd_ne (ne_of_none e0 ht0), upd_ne (ne_of_none e0 hx), upd_ne (ne_of_none e0 hdx)]; exact e0)
  exact ⟨rfl, k H' x t S hx ht0 ⟨dx, ts, e, B t _ (by simpa using ntx) upd_same, hP.same S⟩⟩
/-- too many rules -/
theorem book_full {cF cB : Addr} {H : Hp} {Q : VK} {E : XK} {vs : List V} (h6 : 6 < vs.length) (hz : vs.length ≤ 1000) (k : ∀ H', Same H H' → E (.ref cF) none H') : MkS cB (sp_Book_init cF cB) E vs H Q := by
  rw [mkS_eq]
  intro x dx hx hdx ndx
  refine ⟨x, dx, vs, rfl, hz, upd_same, fun t ht => ⟨fun h => by omega, fun _ => k _ fun b o e0 => ?_⟩⟩
  have ht0 : H t = none := by
    cases q : H t with
    | none => rfl
    | some o => rw [upd_ne (ne_of_none q hx), upd_ne (ne_of_none q hdx), q] at ht; cases ht
  rw [upd_ne (ne_of_none e0 ht0), upd_ne (ne_of_none e0 hx), upd_ne (ne_of_none e0 hdx)]
  exact e0
end
end Rz

namespace Rz
open PySem PySem.Spec PyProof.Rows L2
/-- the codes of all sides -/
def allC (rs : List Ru) : List Nat := (rs.map fun r => (r.1 ++ r.2).cps.toList).flatten
def usedC (cs : List Nat) : List Nat := abc.cps.toList.filter fun c => decide (c ∈ cs)
def usedT (rs : List Ru) : Str := ⟨(usedC (allC rs)).toArray⟩
theorem used_rise (cs : List Nat) : (usedC cs).Pairwise (· < ·) := by
  unfold usedC
  exact List.Pairwise.filter _ (by decide +kernel)
theorem join_sgs (cs : List Nat) : Txt.join "" (sgs cs) = ⟨cs.toArray⟩ := by
  have h := join_signs (cs.map fun c => ((c, 0) : Pr))
  rw [List.map_map] at h
  unfold tx at h
  rw [List.map_map] at h
  have e : (cs.map ((fun p : Pr => p.1) ∘ fun c => ((c, 0) : Pr))) = cs := by
    rw [show ((fun p : Pr => p.1) ∘ fun c => ((c, 0) : Pr)) = id from rfl, List.map_id]
  rw [e] at h
  exact h
def sp_Book_signs (cB cC : Addr) : Sp := fun vs H Q _ => ∃ (b t : Addr) (rs : List Ru), vs = [.ref b] ∧ BkAt cB cC H b t rs ∧ GoodB rs ∧ rs.length ≤ 6 ∧ ∀ H', Same H H' → Q (.str (usedT rs)) H'
theorem fo_in {z : Str} (h : fo z = none) : ∀ c ∈ z.cps.toList, c ∈ abc.cps.toList := fun c hc => by
  have q : oddC c = false := by
    unfold fo at h
    have := List.findIdx?_eq_none_iff.mp h c hc
    simpa using this
  simpa [oddC] using q
theorem rd_fo {l r : Str} (h : rd l r = .good) : fo l = none ∧ fo r = none := by
  unfold rd at h
  split at h
  · cases h
  · rename_i e1
    split at h
    · cases h
    · rename_i e2
      exact ⟨e1, e2⟩
theorem good_in {r : Ru} (h : rd r.1 r.2 = .good) : ∀ c ∈ (r.1 ++ r.2).cps.toList, c ∈ abc.cps.toList := fun c hc => by
  have e : (r.1 ++ r.2).cps.toList = r.1.cps.toList ++ r.2.cps.toList := by
    show (r.1.cps ++ r.2.cps).toList = _
    rw [Array.toList_append]
  rw [e] at hc
  rcases List.mem_append.mp hc with z | z
  · exact fo_in (rd_fo h).1 c z
  · exact fo_in (rd_fo h).2 c z
theorem all_in {rs : List Ru} (h : GoodB rs) : ∀ c ∈ allC rs, c ∈ abc.cps.toList := fun c hc => by
  obtain ⟨l, hl, hc⟩ := List.mem_flatten.mp hc
  obtain ⟨r, hr, rfl⟩ := List.mem_map.mp hl
  exact good_in (h r hr) c hc
theorem sides_join (rs : List Ru) : (Txt.join "" (rs.map fun r => r.1 ++ r.2)).cps.toList = allC rs := by
  have h := join0 (rs.map fun r => r.1 ++ r.2)
  rw [List.map_map] at h
  exact h
theorem all_len : ∀ {rs : List Ru}, GoodB rs → (allC rs).length ≤ 8 * rs.length
  | [], _ => Nat.le_refl _
  | r :: rs, h => by
    have a := all_len (rs := rs) fun x hx => h x (List.mem_cons_of_mem _ hx)
    have b := good_len (h r List.mem_cons_self)
    have e : (allC (r :: rs)) = (r.1 ++ r.2).cps.toList ++ allC rs := rfl
    have f : (r.1 ++ r.2).cps.toList.length = r.1.length + r.2.length := by
      show (r.1.cps ++ r.2.cps).toList.length = _
      rw [Array.length_toList, Array.size_append]
      rfl
    rw [e, List.length_append, f, List.length_cons]
    omega
section
variable {w : World} {K : PySem.W.Frag} {mg : Str → Option Value} {base : Heap}
theorem sc_Book_signs : FnScope N_Book_signs P_Book_signs (defScope s_Book_signs) := ⟨rfl, rfl, rfl, by decide +kernel, rfl, by decide +kernel, by decide +kernel⟩
theorem ok_Book_signs (T : Txt K mg) : FnOk prg w K mg base (L2.CX prg w) 2 T.f_Book_signs T.fd_Book_signs P_Book_signs (sp_Book_signs T.c_Book T.c_Rule) := by
  refine Rz.Fun.okN T.F_Book_signs sc_Book_signs (fun vs H Q E h => ?_) (fun cdv A outer s H vs Q E hr h => ?_)
  · obtain ⟨p, l, ps, rfl, _⟩ := h
    rfl
  obtain ⟨b, t, rs, rfl, ⟨dx, ts, hb, ht, hP⟩, hg, h6, k⟩ := h
  have nd := sc_Book_signs.nd
  refine ⟨_, (pss_cons (ps_setLc (i := 2) (own := [("rule", 1)]) (g := (gName 1)) (tt := tYes) rfl nd rfl rfl (sw_true rfl rfl rfl (by decide +kernel)) (pi_tup (pe_fld (pv 0) rfl)) (blkOk_by (N := N_Book_signs) (sc := defScope s_Book_signs) (by decide +kernel)) (fun _ _ _ _ _ => (pg_name (i := 1) nd rfl (Or.inl rfl))) (fun _ _ _ _ _ => pts_nil) (fun _ _ _ _ _ => (pe_op op_add_str (show PE _ _ (tFld K (tVar 1) "left") from pe_fld (pv 1) rfl) (show PE _ _ (tFld K (tVar 1) "right") from pe_fld (pv 1) rfl))))
    (pss_one (ps_ret (pe_join pe_str (pe_callB (cr_sortSs (by rfl)) (by rfl) T.n_sorted (by decide +kernel) (pa_cons (pe_callTy (cr_setTx (by rfl)) (by rfl) T.n_set (by decide +kernel) (pa_cons (pe_join pe_str (pv 2)) pa_nil)) pa_nil)))))), ?_⟩
  refine ⟨_, rfl, b, _, dx, _, _, rfl, hb, T.cl_Book, T.na_Book__rules, rfl, t, rfl, ⟨_, SqT.of ht⟩, fun D hD => lc_rules (K := K) (cC := T.c_Rule) (l := t) (ts := ts) (rs := rs) (fun r => .str (r.1 ++ r.2)) ht hP (by rw [sizeLine_eq]; omega) hD ?_ ?_⟩
  · rintro u r H2 Q2 hr2 S2 ⟨dq, eu⟩ kk
    have gl := good_len (hg r hr2)
    exact ⟨rfl, _, rfl, u, _, dq, _, _, rfl, eu, T.cl_Rule, T.na_Rule_left, rfl, _, rfl, u, _, dq, _, _, rfl, eu, T.cl_Rule, T.na_Rule_right, rfl, _, _, rfl, rfl, by rw [sizeLine_eq]; omega, kk _ (Same.refl _)⟩
  intro H2 S2 e2
  have e2' : rs.map (fun r => V.str (r.1 ++ r.2)) = (rs.map fun r => r.1 ++ r.2).map V.str := by rw [List.map_map]; rfl
  rw [e2'] at e2
  have gl : ∀ r ∈ rs, (r.1 ++ r.2).length ≤ 8 := fun r hr2 => by
    have := good_len (hg r hr2)
    rw [Str.length_append]
    omega
  have su : ∀ xs : List Ru, (∀ r ∈ xs, (r.1 ++ r.2).length ≤ 8) → ((xs.map fun r => r.1 ++ r.2).map fun y => y.length).sum ≤ 8 * xs.length := by
    intro xs
    induction xs with
    | nil => intro _; simp
    | cons r xs ih =>
      intro h
      have a := h r List.mem_cons_self
      have b := ih fun x hx => h x (List.mem_cons_of_mem _ hx)
      simp only [List.map_cons, List.sum_cons, List.length_cons]
      omega
  refine ⟨⟨_, rfl⟩, ⟨_, rfl⟩, _, rfl, _, D, _, rfl, rfl, .inl (SqL.of e2), ?_, ?_⟩
  · have := su rs gl
    show _ + _ * 0 ≤ _
    omega
  have ex := sides_join rs
  generalize Txt.join "" (rs.map fun r => r.1 ++ r.2) = x at ex
  have hsz : x.cps.size = (allC rs).length := by rw [← ex, Array.length_toList]
  have al := all_len hg
  refine ⟨x, rfl, ?_, by rw [hsz]; unfold scanBound; omega, fun p l hp hm ndl hl => ?_⟩
  · rw [← Array.all_toList, List.all_eq_true]
    intro c hc
    rw [ex] at hc
    have m := all_in hg c hc
    have le : ∀ y ∈ abc.cps.toList, y < 128 := by decide +kernel
    exact decide_eq_true (le c m)
  refine ⟨p, l, rfl, upd_same, by omega, fun ys q pm hs hq => ?_⟩
  have ey := sorted_signs (ds := usedC (allC rs)) hm ndl pm hs (used_rise _) (fun c => by
    rw [ex]
    unfold usedC
    rw [List.mem_filter, decide_eq_true_eq]
    exact ⟨fun z => z.2, fun z => ⟨all_in hg c z, z⟩⟩)
  subst ey
  have lu : (usedC (allC rs)).length ≤ 26 := by
    unfold usedC
    have := List.length_filter_le (fun c => decide (c ∈ allC rs)) abc.cps.toList
    have e26 : abc.cps.toList.length = 26 := by decide +kernel
    omega
  refine ⟨_, q, _, rfl, rfl, .inl (SqL.of upd_same), ?_, ?_⟩
  · unfold sgs
    rw [sum_ones (fun y hy => by obtain ⟨c, _, rfl⟩ := List.mem_map.mp hy; rfl), List.length_map]
    show _ + _ * 0 ≤ _
    omega
  rw [join_sgs]
  exact k _ (Rz.Same.new (Rz.Same.new S2 hp) hq)
end
end Rz

namespace Rz
open PySem PySem.Spec PyProof.Rows L2
def sp_Book_numbered (cN cB cC : Addr) : Sp := fun vs H Q E => ∃ (b t : Addr) (rs : List Ru) (i : Int), vs = [.ref b, .int i] ∧ BkAt cB cC H b t rs ∧ rs.length ≤ 6 ∧ i.natAbs < 2 ^ 64 ∧
  (0 ≤ i ∧ i < (rs.length : Int) → ∀ q r, rs[i.toNat]? = some r → RuAt cC H q r.1 r.2 → Q (.ref q) H) ∧
  (¬ (0 ≤ i ∧ i < (rs.length : Int)) → ∀ H' d, Same H H' → H d = none → H' d = some (.xd [("number", .int i)]) → E (.ref cN) (some d) H')
theorem RuL.nth {cC : Addr} {H : Hp} : ∀ {ts : List Addr} {rs : List Ru} {i : Nat} {r : Ru}, RuL cC H ts rs → rs[i]? = some r → ∃ t, ts[i]? = some t ∧ RuAt cC H t r.1 r.2
  | _, _, i, r, .nil, h => by cases h
  | _, _, 0, r, .cons e p, h => by
    have z := Option.some.inj h
    subst z
    exact ⟨_, rfl, e⟩
  | _, _, i + 1, r, .cons e p, h => RuL.nth (i := i) p (by simpa using h)
section
variable {w : World} {K : PySem.W.Frag} {mg : Str → Option Value} {base : Heap}
theorem sc_Book_numbered : FnScope N_Book_numbered P_Book_numbered (defScope s_Book_numbered) := ⟨rfl, rfl, rfl, by decide +kernel, rfl, by decide +kernel, by decide +kernel⟩
theorem ok_Book_numbered (T : Txt K mg) : FnOk prg w K mg base (L2.CX prg w) 3 T.f_Book_numbered T.fd_Book_numbered P_Book_numbered (sp_Book_numbered T.c_NoRule T.c_Book T.c_Rule) := by
  refine T.F_Book_numbered.okX sc_Book_numbered (fun vs H Q E h => ?_) (fun cdv A outer s H vs Q E hr h => ?_)
  · obtain ⟨p, l, ps, i, rfl, _⟩ := h
    rfl
  obtain ⟨b, t, rs, i, rfl, ⟨dx, ts, hb, ht, hP⟩, h6, hi, kg, kb⟩ := h
  have tk : Takes (cxOf (L2.CX prg w) prg w K mg base N_Book_numbered "Book._numbered" (defScope s_Book_numbered) T.f_Book_numbered cdv A outer s H E) (fun cls d _ H' => E cls d H') := takes_of rfl rfl rfl rfl
  refine ⟨_, (pss_cons (ps_if (pt_not (pt_chain op_le op_lt pe_int (pv 1) (pe_callB call_len_seq (by rfl) T.n_len PySem.boot_len (pa_cons (pe_fld (pv 0) rfl) pa_nil)))) (pss_one (ps_raise rfl tk (pmk_oex T.o_NoRule T.i_NoRule T.t_NoRule (ok_NoRule_init T) (hr.mono (by decide)) T.b_NoRule_init .nil passN (by rfl) T.m_NoRule (pa_cons (pv 1) pa_nil)))) pss_nil)
    (pss_one (ps_ret (pe_ix ix_tup (pe_fld (pv 0) rfl) (pv 1) (fun _ _ => rfl))))), ?_⟩
  have bad : ¬ (0 ≤ i ∧ i < (rs.length : Int)) → _ := fun hbd => raise_fld (C := T.c_NoRule) (fld := "number") (n := i) (H1 := H) (Q := E) (log_small hi (by decide)) fun H2 d S2 hd e => kb hbd H2 d S2 hd e
  refine ⟨_, rfl, _, _, rfl, rfl, decide (0 ≤ i), rfl, ?_⟩
  by_cases h0 : 0 ≤ i
  · rw [decide_eq_true h0]
    refine iteT ⟨_, rfl, b, _, dx, _, _, rfl, hb, T.cl_Book, T.na_Book__rules, rfl, t, _, rfl, .inr (SqT.of ht), _, _, rfl, rfl, decide (i < ((ts.map V.ref).length : Int)), rfl, ?_⟩
    rw [List.length_map, hP.len]
    by_cases h1 : i < (rs.length : Int)
    · rw [decide_eq_true h1]
      refine iteF ?_
      obtain ⟨n, rfl⟩ := Int.eq_ofNat_of_zero_le h0
      have hn : n < rs.length := by omega
      obtain ⟨q, hq, eq⟩ := hP.nth (List.getElem?_eq_getElem hn)
      exact ⟨_, rfl, b, _, dx, _, _, rfl, hb, T.cl_Book, T.na_Book__rules, rfl, _, rfl, t, _, _, .ref q, rfl, rfl, SqT.of ht, atI_nat (ref_nth hq), kg ⟨h0, h1⟩ q _ (by rw [Int.toNat_natCast]; exact List.getElem?_eq_getElem hn) eq⟩
    · rw [decide_eq_false h1]
      exact iteT ⟨_, rfl, by show 1 ≤ 1000; decide, bad fun z => h1 z.2⟩
  · rw [decide_eq_false h0]
    refine iteF ⟨false, rfl, ?_⟩
    exact iteT ⟨_, rfl, by show 1 ≤ 1000; decide, bad fun z => h0 z.1⟩
end
end Rz

namespace Rz
open PySem PySem.Spec PyProof.Rows L2
/-! ### slices and sums of tuples of objects -/
section
variable {K : PySem.W.Frag} {H : Hp} {Q : VK} {t u : Addr} {ts us : List Addr} {n : Nat}
theorem catA_go (ht : H t = some (.tup (ts.map V.ref))) (hu : H u = some (.tup (us.map V.ref))) (hz : ts.length + us.length ≤ 1000000) (k : ∀ (H' : Hp) (p : Addr), Same H H' → H' p = some (.tup ((ts ++ us).map V.ref)) → Q (.ref p) H') : rCatA K (.ref t) (.ref u) H Q := by
  refine ⟨t, u, _, _, rfl, rfl, SqT.of ht, SqT.of hu, by rw [List.length_map, List.length_map, sizeLine_eq]; omega, fun e => ?_, fun _ e => ?_, fun _ _ p hp => ?_⟩
  · have e1 : ts = [] := List.map_eq_nil_iff.mp e
    exact k H u (Same.refl H) (by rw [e1]; exact hu)
  · have e1 : us = [] := List.map_eq_nil_iff.mp e
    exact k H t (Same.refl H) (by rw [e1, List.append_nil]; exact ht)
  · exact k _ p (Rz.Same.new (Same.refl H) hp) (by rw [upd_same, List.map_append])
theorem sIx_nat {m d : Nat} (h : n ≤ m) : HT.sIx m d (some (n : Int)) = n := by
  unfold HT.sIx
  simp only
  rw [if_neg (by omega), Int.toNat_natCast]
  omega
theorem toA_go (ht : H t = some (.tup (ts.map V.ref))) (hn : n ≤ ts.length) (k : ∀ (H' : Hp) (p : Addr), Same H H' → H' p = some (.tup ((ts.take n).map V.ref)) → Q (.ref p) H') : rSlA K (.ref t) none (some (n : Int)) H Q := by
  refine ⟨t, _, rfl, SqT.of ht, fun h => ?_, fun _ p hp => ?_⟩
  · have e := h.2
    rw [sIx_nat (by rw [List.length_map]; exact hn), List.length_map] at e
    exact k H t (Same.refl H) (by rw [e, List.take_length]; exact ht)
  · exact k _ p (Rz.Same.new (Same.refl H) hp) (by rw [upd_same, cutV_to (by rw [List.length_map]; exact hn), List.map_take])
theorem fromA_go {σ : L2.St} (ht : H t = some (.tup (ts.map V.ref))) (hn : n ≤ ts.length) (k : ∀ (H' : Hp) (p : Addr), Same H H' → H' p = some (.tup ((ts.drop n).map V.ref)) → Q (.ref p) H') : tNoPart σ H fun u H3 => rSlA K (.ref t) (some (n : Int)) u H3 Q := by
  refine ⟨t, _, rfl, SqT.of ht, fun h => ?_, fun _ p hp => ?_⟩
  · have e := h.1
    rw [sIx_nat (by rw [List.length_map]; exact hn)] at e
    exact k H t (Same.refl H) (by rw [e, List.drop_zero]; exact ht)
  · exact k _ p (Rz.Same.new (Same.refl H) hp) (by rw [upd_same, cutV_from (by rw [List.length_map]; exact hn), List.map_drop])
end
end Rz

namespace Rz
open PySem PySem.Spec PyProof.Rows L2
def sp_Book_drop (cN cB cC : Addr) : Sp := fun vs H Q E => ∃ (b t : Addr) (rs : List Ru) (i : Int), vs = [.ref b, .int i] ∧ BkAt cB cC H b t rs ∧ rs.length ≤ 6 ∧ i.natAbs < 2 ^ 64 ∧
  (0 ≤ i ∧ i < (rs.length : Int) → ∀ H' t' q r, rs[i.toNat]? = some r → But [b] H H' → BkAt cB cC H' b t' (rs.take i.toNat ++ rs.drop (i.toNat + 1)) → RuAt cC H' q r.1 r.2 → Q (.ref q) H') ∧
  (¬ (0 ≤ i ∧ i < (rs.length : Int)) → ∀ H' d, Same H H' → H d = none → H' d = some (.xd [("number", .int i)]) → E (.ref cN) (some d) H')
section
variable {w : World} {K : PySem.W.Frag} {mg : Str → Option Value} {base : Heap}
theorem sc_Book_drop : FnScope N_Book_drop P_Book_drop (defScope s_Book_drop) := ⟨rfl, rfl, rfl, by decide +kernel, rfl, by decide +kernel, by decide +kernel⟩
theorem ok_Book_drop (T : Txt K mg) : FnOk prg w K mg base (L2.CX prg w) 5 T.f_Book_drop T.fd_Book_drop P_Book_drop (sp_Book_drop T.c_NoRule T.c_Book T.c_Rule) := by
  refine T.F_Book_drop.okX sc_Book_drop (fun vs H Q E h => ?_) (fun cdv A outer s H vs Q E hr h => ?_)
  · obtain ⟨p, l, ps, i, rfl, _⟩ := h
    rfl
  obtain ⟨b, t, rs, i, rfl, hB, h6, hi, kg, kb⟩ := h
  have nd := sc_Book_drop.nd
  have tk : Takes (cxOf (L2.CX prg w) prg w K mg base N_Book_drop "Book.drop" (defScope s_Book_drop) T.f_Book_drop cdv A outer s H E) (fun cls d _ H' => E cls d H') := takes_of rfl rfl rfl rfl
  refine ⟨_, (pss_cons (ps_set (i := 2) nd rfl (Or.inl rfl) (pe_mt (pv 0) T.cl_Book T.M_Book_numbered (ok_Book_numbered T) (hr.mono (by decide)) T.b_Book_numbered .nil (passAt tk) (pa_cons (pv 1) pa_nil)))
    (pss_cons (ps_fld (pv 0) (pe_op op_catA (pe_slice sl_tupA (pe_fld (pv 0) rfl) po_none (po_some (pv 1))) (pe_slice sl_tupA (pe_fld (pv 0) rfl) (po_some (pe_op op_add (pv 1) pe_int)) po_none)) rfl)
    (pss_one (ps_ret (pv 2))))), ?_⟩
  obtain ⟨dx, ts, hb, ht, hP⟩ := id hB
  have hl := hP.len
  refine ⟨_, rfl, b, dx, _, rfl, hb, rfl, _, rfl, b, t, rs, i, rfl, hB, h6, hi, fun hin q r hr2 hq => ?_, fun bad H' d S hd e => kb bad H' d S hd e⟩
  obtain ⟨n, rfl⟩ := Int.eq_ofNat_of_zero_le hin.1
  have hn : n < rs.length := by omega
  rw [Int.toNat_natCast] at hr2
  refine ⟨_, rfl, b, _, dx, _, _, rfl, hb, T.cl_Book, T.na_Book__rules, rfl, _, rfl, _, rfl, toA_go ht (by omega) fun H1 p1 S1 e1 => ?_⟩
  refine ⟨_, rfl, b, _, dx, _, _, rfl, S1 _ _ hb, T.cl_Book, T.na_Book__rules, rfl, _, rfl, _, _, rfl, rfl, _, rfl, fromA_go (n := n + 1) (S1 _ _ ht) (by omega) fun H2 p2 S2 e2 => ?_⟩
  refine catA_go (S2 _ _ e1) e2 (by rw [List.length_take, List.length_drop]; omega) fun H3 p3 S3 e3 => ?_
  have S := (S1.trans S2).trans S3
  refine ⟨_, rfl, b, _, dx, _, rfl, S _ _ hb, T.cl_Book, T.na_Book__rules, by show 1 < 1000; decide, _, rfl, ?_⟩
  have B : But [b] H (upd H3 b (.ins T.c_Book dx (putF "_rules" (.ref p3) [("_rules", .ref t)]))) := (But.of S).upd (.inl (by simp))
  have nr : ∀ x ∈ [b], ∀ dq l r, H x ≠ some (.ins T.c_Rule dq (ruleF l r)) := fun x hx d l r2 e => by
    have ex : x = b := by simpa using hx
    rw [ex, hb] at e
    have q := Option.some.inj e
    injection q with _ _ q3
    exact rule_no_book q3.symm
  refine kg hin _ p3 q r (by rw [Int.toNat_natCast]; exact hr2) B ⟨dx, ts.take n ++ ts.drop (n + 1), upd_same, ?_, ?_⟩ ?_
  · rw [upd_ne (fun z => by rw [z, S _ _ hb] at e3; cases e3)]
    exact e3
  · rw [Int.toNat_natCast]
    exact RuL.append ((hP.but B nr).take n) ((hP.but B nr).drop (n + 1))
  · obtain ⟨dq, eq⟩ := hq
    exact ⟨dq, B _ _ (fun z => nr q z _ _ _ eq) eq⟩
end
end Rz

namespace Rz
open PySem PySem.Spec PyProof.Rows L2
def wrT (rs : List Ru) : Str := Txt.join "\n" (rs.map fun r => ruleT r.1 r.2)
def sp_Book_written (cB cC : Addr) : Sp := fun vs H Q _ => ∃ (b t : Addr) (rs : List Ru), vs = [.ref b] ∧ BkAt cB cC H b t rs ∧ GoodB rs ∧ rs.length ≤ 6 ∧ ∀ H', Same H H' → Q (.str (wrT rs)) H'
theorem ruleT_len {r : Ru} (h : rd r.1 r.2 = .good) : (ruleT r.1 r.2).length ≤ 9 := by
  have := good_len h
  unfold ruleT
  rw [Str.length_append, Str.length_append, Str.length_append]
  show 0 + r.1.length + 1 + r.2.length ≤ 9
  omega
theorem ruleT_sum : ∀ {rs : List Ru}, GoodB rs → ((rs.map fun r => ruleT r.1 r.2).map fun y => y.length).sum ≤ 9 * rs.length
  | [], _ => Nat.le_refl _
  | r :: rs, h => by
    have a := ruleT_len (h r List.mem_cons_self)
    have b := ruleT_sum (rs := rs) fun x hx => h x (List.mem_cons_of_mem _ hx)
    simp only [List.map_cons, List.sum_cons, List.length_cons]
    omega
section
variable {w : World} {K : PySem.W.Frag} {mg : Str → Option Value} {base : Heap}
theorem sc_Book_written : FnScope N_Book_written P_Book_written (defScope s_Book_written) := ⟨rfl, rfl, rfl, by decide +kernel, rfl, by decide +kernel, by decide +kernel⟩
theorem ok_Book_written (T : Txt K mg) : FnOk prg w K mg base (L2.CX prg w) 5 T.f_Book_written T.fd_Book_written P_Book_written (sp_Book_written T.c_Book T.c_Rule) := by
  refine Rz.Fun.okN T.F_Book_written sc_Book_written (fun vs H Q E h => ?_) (fun cdv A outer s H vs Q E hr h => ?_)
  · obtain ⟨p, l, ps, rfl, _⟩ := h
    rfl
  obtain ⟨b, t, rs, rfl, ⟨dx, ts, hb, ht, hP⟩, hg, h6, k⟩ := h
  have nd := sc_Book_written.nd
  refine ⟨_, (pss_one (ps_ret (pe_join pe_str (pe_lc (own := [("rule", 1)]) (g := (gName 1)) (tt := tYes) rfl nd (pi_tup (pe_fld (pv 0) rfl)) (blkOk_by (N := N_Book_written) (sc := defScope s_Book_written) (by decide +kernel)) (fun _ _ _ _ _ => (pg_name (i := 1) nd rfl (Or.inl rfl))) (fun _ _ _ _ _ => pts_nil) (fun _ _ _ _ _ => (pe_callTy (call_strO T.M_Rule_str (ok_Rule_str T) (hr.mono (by decide)) T.b_Rule_str) (by rfl) T.n_str (by decide +kernel) (pa_cons (pv 1) pa_nil))))))), ?_⟩
  refine ⟨⟨_, rfl⟩, _, rfl, b, _, dx, _, _, rfl, hb, T.cl_Book, T.na_Book__rules, rfl, t, rfl, ⟨_, SqT.of ht⟩, fun D hD => lc_rules (K := K) (cC := T.c_Rule) (l := t) (ts := ts) (rs := rs) (fun r => .str (ruleT r.1 r.2)) ht hP (by rw [sizeLine_eq]; omega) hD ?_ ?_⟩
  · rintro u r H2 Q2 hr2 S2 ⟨dq, eu⟩ kk
    have gl := good_len (hg r hr2)
    exact ⟨rfl, _, rfl, u, dq, _, rfl, eu, u, dq, r.1, r.2, rfl, by omega, by omega, eu, ⟨_, rfl⟩, kk _ (Same.refl _)⟩
  intro H2 S2 e2
  have e2' : rs.map (fun r => V.str (ruleT r.1 r.2)) = (rs.map fun r => ruleT r.1 r.2).map V.str := by rw [List.map_map]; rfl
  rw [e2'] at e2
  refine ⟨_, D, _, rfl, rfl, .inl (SqL.of e2), ?_, k H2 S2⟩
  have := ruleT_sum hg
  rw [List.length_map]
  show _ + _ * 1 ≤ _
  omega
end
end Rz

namespace Rz
open PySem PySem.Spec PyProof.Rows L2
/-- the line of a rule -/
def sp_read_rule (cC : Addr) : Sp := fun vs H Q _ => ∃ (l r : Str) (n : Int), vs = [.str (ruleT l r), .int n] ∧ rd l r = .good ∧ ∀ H' q, Same H H' → H q = none → RuAt cC H' q l r → Q (.ref q) H'
theorem no_colon {l r : Str} (h : rd l r = .good) : 58 ∉ l.cps.toList ∧ 58 ∉ r.cps.toList := by
  have n : 58 ∉ abc.cps.toList := by decide +kernel
  exact ⟨fun z => n (fo_in (rd_fo h).1 _ z), fun z => n (fo_in (rd_fo h).2 _ z)⟩
theorem ruleT_join (l r : Str) : ruleT l r = Txt.join ":" [l, r] := by
  have a : (ruleT l r).cps.toList = l.cps.toList ++ 58 :: r.cps.toList := by
    unfold ruleT
    show (((Str.empty.cps ++ l.cps) ++ (":" : Str).cps) ++ r.cps).toList = _
    rw [Array.toList_append, Array.toList_append, Array.toList_append]
    show ([] ++ l.cps.toList) ++ [58] ++ r.cps.toList = _
    simp
  have b : (Txt.join ":" [l, r]).cps.toList = l.cps.toList ++ 58 :: r.cps.toList := by
    have h := TL.tl_join ":" [l, r]
    rw [← TL.join_eq] at h
    exact h
  have c := a.trans b.symm
  have d : (ruleT l r).cps = (Txt.join ":" [l, r]).cps := Array.toList_inj.mp c
  generalize ruleT l r = x at d
  generalize Txt.join ":" [l, r] = y at d
  cases x
  cases y
  exact congrArg Str.mk d
theorem ruleT_split {l r : Str} (h : rd l r = .good) : Txt.split (ruleT l r) ":" = [l, r] := by
  rw [ruleT_join]
  refine TL.split_join (s := 58) (S := []) rfl (by decide +kernel) (by simp) fun p hp => ?_
  have n := no_colon h
  rcases List.mem_cons.mp hp with e | e
  · rw [e]
    exact n.1
  · have e2 : p = r := by simpa using e
    rw [e2]
    exact n.2
theorem lenS_go {K : PySem.W.Frag} {H : Hp} {Q : VK} {p : Addr} {ys : List V} (h : SqL K H p ys) (k : Q (.int (ys.length : Nat)) H) : rLenS K [V.ref p] H Q := by
  unfold rLenS
  exact ⟨p, _, rfl, h, k⟩
section
variable {w : World} {K : PySem.W.Frag} {mg : Str → Option Value} {base : Heap}
theorem sc_read_rule : FnScope N__read_rule P__read_rule (defScope s__read_rule) := ⟨rfl, rfl, rfl, by decide +kernel, rfl, by decide +kernel, by decide +kernel⟩
theorem ok_read_rule (T : Txt K mg) : FnOk prg w K mg base (L2.CX prg w) 6 T.f__read_rule T.fd__read_rule P__read_rule (sp_read_rule T.c_Rule) := by
  refine Rz.Fun.okN T.F__read_rule sc_read_rule (fun vs H Q E h => ?_) (fun cdv A outer s H vs Q E hr h => ?_)
  · obtain ⟨l, r, n, rfl, _⟩ := h
    rfl
  obtain ⟨l, r, n, rfl, hg, k⟩ := h
  have nd := sc_read_rule.nd
  obtain ⟨ds, vd, bd⟩ := bd_Rule_init_3 T
  cases vd
  refine ⟨_, (pss_cons (ps_set (i := 2) nd rfl (Or.inl rfl) (pe_split (pv 0) pe_str))
    (pss_cons (ps_if (pt_cmpR op_ne (pe_callB call_lenS (by rfl) T.n_len PySem.boot_len (pa_cons (pv 2) pa_nil)) pe_int (nomark _)) pss_never pss_nil)
    (pss_one (ps_try_no (fun pn xe tk _ => (pss_one (ps_ret (pe_mkR ⟨T.mk_Rule, T.M_Rule_init.at_, T.M_Rule_init.fn, T.kp_Rule⟩ (ok_Rule_init T) (hr.mono (by decide)) (by rfl) T.m_Rule bd .nil (passAt tk) (pa_cons (pe_ix (show IxR _ (rIxL K) from ix_list) (pv 2) pe_int (fun _ _ => rfl)) (pa_cons (pe_ix (show IxR _ (rIxL K) from ix_list) (pv 2) pe_int (fun _ _ => rfl)) pa_nil)))))))))), ?_⟩
  have gl := good_len (r := (l, r)) hg
  have tl : (ruleT l r).length ≤ 9 := ruleT_len (r := (l, r)) hg
  have l1 : l.length ≤ 4 := gl.1
  have l2 : r.length ≤ 4 := gl.2.1
  refine ⟨_, rfl, ⟨_, rfl⟩, _, _, rfl, rfl, rfl, by show (ruleT l r).length + 2 ≤ _; rw [sizeLine_eq]; omega, fun p hp => ?_⟩
  rw [ruleT_split hg]
  have S1 := Rz.Same.new (o := .lst ([l, r].map V.str)) (Same.refl H) hp
  refine ⟨_, rfl, lenS_go (SqL.of upd_same) ⟨rfl, _, rfl, ite2 (fun h => absurd h (by simp)) (fun _ => ?_)⟩⟩
  exact ⟨_, rfl, p, _, _, .str l, rfl, rfl, SqL.of upd_same, rfl, _, rfl, p, _, _, .str r, rfl, rfl, SqL.of upd_same, rfl, rule_new rfl (by omega) (by omega) hg fun H' q S hq R => k H' q (S1.trans S) (S1.free hq) R⟩
end
end Rz

namespace Rz
open PySem PySem.Spec PyProof.Rows L2
/-- the written form of good rules -/
def sp_Book_read (cB cC : Addr) : Sp := fun vs H Q _ => ∃ (rs : List Ru), vs = [.ref cB, .str (wrT rs)] ∧ GoodB rs ∧ rs.length ≤ 6 ∧ ∀ H' b t, Same H H' → H b = none → H t = none → BkAt cB cC H' b t rs → Q (.ref b) H'
theorem wrT_split {rs : List Ru} (h : GoodB rs) (n : rs ≠ []) : Txt.split (wrT rs) "\n" = rs.map fun r => ruleT r.1 r.2 := by
  unfold wrT
  refine TL.split_join (s := 10) (S := []) rfl (by decide +kernel) (by simpa using n) fun p hp => ?_
  obtain ⟨r, hr, rfl⟩ := List.mem_map.mp hp
  have g := h r hr
  have na : 10 ∉ abc.cps.toList := by decide +kernel
  rw [ruleT_join]
  have b := TL.tl_join ":" [r.1, r.2]
  rw [← TL.join_eq] at b
  rw [b]
  show 10 ∉ r.1.cps.toList ++ 58 :: r.2.cps.toList
  intro z
  rcases List.mem_append.mp z with z | z
  · exact na (fo_in (rd_fo g).1 _ z)
  · rcases List.mem_cons.mp z with z | z
    · cases z
    · exact na (fo_in (rd_fo g).2 _ z)
theorem ruleT_lenA {r : Ru} (h : rd r.1 r.2 = .good) : 2 ≤ (ruleT r.1 r.2).length := by
  have := good_len h
  unfold ruleT
  rw [Str.length_append, Str.length_append, Str.length_append]
  show 2 ≤ 0 + r.1.length + 1 + r.2.length
  omega
theorem wrT_list (rs : List Ru) : (wrT rs).cps.toList = TL.joinL [10] ((rs.map fun r => ruleT r.1 r.2).map fun y => y.cps.toList) := by
  have h := TL.tl_join "\n" (rs.map fun r => ruleT r.1 r.2)
  rw [← TL.join_eq] at h
  exact h
theorem wrT_len {rs : List Ru} (h : GoodB rs) (h6 : rs.length ≤ 6) : (wrT rs).length ≤ 1000 := by
  have a := joinL_len [10] ((rs.map fun r => ruleT r.1 r.2).map fun y => y.cps.toList)
  rw [← wrT_list] at a
  have e : (wrT rs).cps.toList.length = (wrT rs).length := Array.length_toList
  have b := ruleT_sum h
  have c : (((rs.map fun r => ruleT r.1 r.2).map fun y => y.cps.toList).map List.length) = ((rs.map fun r => ruleT r.1 r.2).map fun y => y.length) := by
    rw [List.map_map]
    rfl
  rw [c, List.length_map, List.length_map, e] at a
  have d : rs.length * [10].length = rs.length := Nat.mul_one _
  omega
theorem wrT_pos {rs : List Ru} (h : GoodB rs) (n : rs ≠ []) : 0 < (wrT rs).length := by
  match rs, n with
  | [r], _ =>
    have g := ruleT_lenA (h r List.mem_cons_self)
    have e := congrArg List.length (wrT_list [r])
    have e1 : (wrT [r]).cps.toList.length = (wrT [r]).length := Array.length_toList
    have e2 : (TL.joinL [10] (([r].map fun r => ruleT r.1 r.2).map fun y => y.cps.toList)).length = (ruleT r.1 r.2).length := Array.length_toList
    omega
  | r :: q :: rs, _ =>
    have g := ruleT_lenA (h r List.mem_cons_self)
    have e := congrArg List.length (wrT_list (r :: q :: rs))
    have e1 : (wrT (r :: q :: rs)).cps.toList.length = (wrT (r :: q :: rs)).length := Array.length_toList
    have e2 : (ruleT r.1 r.2).length ≤ (TL.joinL [10] (((r :: q :: rs).map fun r => ruleT r.1 r.2).map fun y => y.cps.toList)).length := by
      show _ ≤ ((ruleT r.1 r.2).cps.toList ++ _).length
      rw [List.length_append, Array.length_toList]
      exact Nat.le_add_right _ _
    omega
section
variable {w : World} {K : PySem.W.Frag} {mg : Str → Option Value} {base : Heap}
theorem sc_Book_read : FnScope N_Book_read P_Book_read (defScope s_Book_read) := ⟨rfl, rfl, rfl, by decide +kernel, rfl, by decide +kernel, by decide +kernel⟩
theorem ok_Book_read (T : Txt K mg) : FnOk prg w K mg base (L2.CX prg w) 8 T.f_Book_read T.fd_Book_read P_Book_read (sp_Book_read T.c_Book T.c_Rule) := by
  refine Rz.Fun.okN T.F_Book_read sc_Book_read (fun vs H Q E h => ?_) (fun cdv A outer s H vs Q E hr h => ?_)
  · obtain ⟨rs, rfl, _⟩ := h
    rfl
  obtain ⟨rs, rfl, hg, h6, k⟩ := h
  have nd := sc_Book_read.nd
  have mk : Mk K T.c_Book T.f_Book_init := ⟨T.mk_Book, T.M_Book_init.at_, T.M_Book_init.fn, T.kp_Book⟩
  refine ⟨_, (pss_cons (ps_set (i := 2) nd rfl (Or.inl rfl) (pe_fn (ok_decoded T) (hr.mono (by decide)) (by rfl) T.m_decoded T.F_decoded.kp T.b_decoded .nil (fun _ => atN _) (pa_cons (pv 1) pa_nil)))
    (pss_cons (ps_if (pt_not (pt_truth (pv 2) (by intro _; rfl))) (pss_one (ps_ret (pe_mkSL0 (i := 0) mk (ok_Book_init T) (hr.mono (by decide)) rfl (Or.inl rfl) (fun _ => atN _)))) pss_nil)
    (pss_cons (ps_set (i := 3) nd rfl (Or.inl rfl) (pe_split (pv 2) pe_str))
    (pss_cons (ps_setLc (i := 6) (own := [("number", 4), ("line", 5)]) (g := gTup K 2 (gCons (gName 4) (gCons (gName 5) gNil))) (tt := tYes) rfl nd rfl rfl (sw_true rfl rfl rfl (by decide +kernel)) (pi_enumF (by rfl) T.n_enumerate (pa_cons (pv 3) pa_nil) (pk_cons pe_int pk_nil)) (blkOk_by (N := N_Book_read) (sc := defScope s_Book_read) (by decide +kernel)) (fun _ _ _ _ _ => (pg_tup rfl (pgs_cons (pg_name (i := 4) nd rfl (Or.inl rfl)) (pgs_cons (pg_name (i := 5) nd rfl (Or.inl rfl)) pgs_nil)))) (fun _ _ _ _ _ => pts_nil) (fun _ _ _ _ _ => (pe_fn (ok_read_rule T) (hr.mono (by decide)) (by rfl) T.m__read_rule T.F__read_rule.kp T.b__read_rule .nil (fun _ => atN _) (pa_cons (pv 5) (pa_cons (pv 4) pa_nil)))))
    (pss_one (ps_ret (pe_mkSLs (i := 0) mk (ok_Book_init T) (hr.mono (by decide)) rfl (Or.inl rfl) (fun _ => atN _) (pv 6)))))))), ?_⟩
  have wl := wrT_len hg h6
  refine ⟨_, rfl, wrT rs, rfl, _, rfl, _, ⟨by rw [sizeLine_eq]; omega, rfl⟩, ?_⟩
  show if (!(((wrT rs).length : Int) != 0)) = true then _ else _
  by_cases e0 : rs = []
  · subst e0
    refine ite2 (fun _ => ?_) (fun h => absurd (show (!(((wrT []).length : Int) != 0)) = true from rfl) h)
    exact ⟨rfl, book_new (ts := []) rfl (Nat.zero_le _) .nil k⟩
  have wp := wrT_pos hg e0
  refine ite2 (fun h => absurd h (by
    have q : (((wrT rs).length : Int) != 0) = true := by
      have : ¬ ((wrT rs).length : Int) = 0 := by omega
      simpa using this
    rw [q]
    decide)) (fun _ => ?_)
  refine ⟨_, rfl, ⟨_, rfl⟩, _, _, rfl, rfl, rfl, by rw [sizeLine_eq]; omega, fun p hp => ?_⟩
  rw [wrT_split hg e0]
  have S1 := Rz.Same.new (o := .lst ((rs.map fun r => ruleT r.1 r.2).map V.str)) (Same.refl H) hp
  have e1 : upd H p (.lst ((rs.map fun r => ruleT r.1 r.2).map V.str)) p = some (.lst ((rs.map fun r => ruleT r.1 r.2).map V.str)) := upd_same
  generalize upd H p (.lst ((rs.map fun r => ruleT r.1 r.2).map V.str)) = H1 at S1 e1
  have hlen : (((rs.map fun r => ruleT r.1 r.2).map V.str)).length = rs.length := by rw [List.length_map, List.length_map]
  refine ⟨_, rfl, p, _, 1, rfl, rfl, by decide, by decide, SqL.of e1, fun D hD => lc_it (walk_enumF (k := 1) (xs := (rs.map fun r => ruleT r.1 r.2).map V.str)) (fun i H3 => Same H1 H3 ∧ ∃ ts : List Addr, H3 D = some (.lst (ts.map V.ref)) ∧ RuL T.c_Rule H3 ts (rs.take i))
    ⟨Rz.Same.new (Same.refl H1) hD, [], upd_same, .nil⟩ (fun i H3 _ h => SqL.of (h.1 _ _ e1)) ?_ ?_⟩
  · rintro i x H3 H4 hi ⟨S3, ts, e3, P3⟩ ⟨Tp, y, rfl, hT, rfl, hy⟩
    have hi2 : i < rs.length := by
      rw [hlen] at hi
      exact hi
    have hy2 : y = .str (ruleT rs[i].1 rs[i].2) := by
      rw [List.getElem?_map, List.getElem?_map, List.getElem?_eq_getElem hi2] at hy
      exact (Option.some.inj hy).symm
    subst hy2
    have S34 := Rz.Same.new (o := .tup [.int (1 + (i : Nat)), .str (ruleT rs[i].1 rs[i].2)]) (Same.refl H3) hT
    refine ⟨Tp, _, rfl, SqT.of upd_same, rfl, _, _, rfl, _, _, rfl, rfl, rfl, yesT ⟨_, rfl, _, rfl, _, _, _, rfl, hg _ (List.getElem_mem hi2), fun H5 q S5 hq R5 => ?_⟩⟩
    have e5 := S5 _ _ (S34 _ _ e3)
    have lt := P3.len
    rw [List.length_take] at lt
    refine ⟨_, e5, by rw [List.length_map, sizeLine_eq]; omega, Rz.Same.upd ((S3.trans S34).trans S5) hD, ts ++ [q], by rw [upd_same, List.map_append]; rfl, ?_⟩
    have P5 : RuL T.c_Rule H5 (ts ++ [q]) (rs.take (i + 1)) := by
      rw [List.take_add_one, List.getElem?_eq_getElem hi2]
      exact RuL.append (P3.same (S34.trans S5)) (.cons R5 .nil)
    refine P5.but ((But.refl [D] H5).upd (.inl (by simp))) fun x hx dq l r e => ?_
    have ex : x = D := by simpa using hx
    rw [ex, e5] at e
    cases e
  · rintro H3 ⟨S3, ts, e3, P3⟩
    rw [hlen, List.take_length] at P3
    refine ⟨rfl, _, rfl, D, _, rfl, .inr (SqL.of e3), book_new rfl h6 P3 fun H' b t S hb ht B => k H' b t ((S1.trans S3).trans S) ((S1.trans S3).free hb) ((S1.trans S3).free ht) B⟩
end
end Rz

namespace Rz
open PySem PySem.Spec PyProof.Rows L2
/-! ### lists of moves: (state, sign, state) -/
abbrev Mv := Int × Str × Int
def mvV (m : Mv) : List V := [.int m.1, .str m.2.1, .int m.2.2]
def MvL (H : Hp) (ts : List Addr) (ms : List Mv) : Prop := Paired (fun (t : Addr) (m : Mv) => H t = some (.tup (mvV m))) ts ms
def MAt (H : Hp) (l : Addr) (ms : List Mv) : Prop := ∃ ts : List Addr, H l = some (.lst (ts.map V.ref)) ∧ MvL H ts ms
theorem MvL.keep {H H' : Hp} (h : Tups H H') : ∀ {ts : List Addr} {ms : List Mv}, MvL H ts ms → MvL H' ts ms
  | _, _, .nil => .nil
  | _, _, .cons e r => .cons (h _ _ e) (MvL.keep h r)
theorem MvL.len {H : Hp} {ts : List Addr} {ms : List Mv} (h : MvL H ts ms) : ts.length = ms.length := Paired.length h
theorem MvL.append {H : Hp} : ∀ {ts us : List Addr} {ms ns : List Mv}, MvL H ts ms → MvL H us ns → MvL H (ts ++ us) (ms ++ ns)
  | _, _, _, _, .nil, s => s
  | _, _, _, _, .cons e t, s => .cons e (MvL.append t s)
theorem MvL.get {H : Hp} : ∀ {ts : List Addr} {ms : List Mv} {i : Nat} {t : Addr}, MvL H ts ms → ts[i]? = some t → ∃ m, ms[i]? = some m ∧ H t = some (.tup (mvV m))
  | _, _, i, t, .nil, h => by cases h
  | _, _, 0, t, .cons e r, h => by
    have z := Option.some.inj h
    subst z
    exact ⟨_, rfl, e⟩
  | _, _, i + 1, t, .cons e r, h => MvL.get (i := i) r (by simpa using h)
theorem MvL.nth {H : Hp} : ∀ {ts : List Addr} {ms : List Mv} {i : Nat} {m : Mv}, MvL H ts ms → ms[i]? = some m → ∃ t, ts[i]? = some t ∧ H t = some (.tup (mvV m))
  | _, _, i, m, .nil, h => by cases h
  | _, _, 0, m, .cons e p, h => by
    have z := Option.some.inj h
    subst z
    exact ⟨_, rfl, e⟩
  | _, _, i + 1, m, .cons e p, h => MvL.nth (i := i) p (by simpa using h)
theorem MAt.same {H H' : Hp} {l : Addr} {ms : List Mv} (S : Same H H') (a : MAt H l ms) : MAt H' l ms := let ⟨ts, h1, h2⟩ := a; ⟨ts, S _ _ h1, h2.keep (.of S)⟩
theorem MAt.but {D : List Addr} {H H' : Hp} {l : Addr} {ms : List Mv} (a : MAt H l ms) (B : But D H H') (n : l ∉ D) (t : Tups H H') : MAt H' l ms := let ⟨ts, h1, h2⟩ := a; ⟨ts, B.at h1 n, h2.keep t⟩
/-- as keys -/
def mvK (m : Mv) : List Key := [.inl m.1, .inr m.2.1, .inl m.2.2]
theorem mvK_V (m : Mv) : (mvK m).map kV = mvV m := rfl
theorem mvK_fits (m : Mv) : Fits (fun i => i == 1) 0 (mvK m) ∧ mvK m ≠ [] := ⟨⟨rfl, rfl, rfl, trivial⟩, by simp [mvK]⟩
theorem mvK_inj {a b : Mv} (h : mvK a = mvK b) : a = b := by
  obtain ⟨a1, a2, a3⟩ := a
  obtain ⟨b1, b2, b3⟩ := b
  simp only [mvK, List.cons.injEq, Sum.inl.injEq, Sum.inr.injEq, and_true] at h
  obtain ⟨rfl, rfl, rfl⟩ := h
  rfl
/-- the states of a lot are fine -/
def okStates (n : Int) (ls : List Int) (ms : List Mv) : Prop := (1 ≤ n ∧ n ≤ 40) ∧ (∀ x ∈ ls, 0 ≤ x ∧ x < n) ∧ ∀ m ∈ ms, (0 ≤ m.1 ∧ m.1 < n) ∧ (0 ≤ m.2.2 ∧ m.2.2 < n)
end Rz

namespace Rz
open PySem PySem.Spec PyProof.Rows L2
/-! ### links between states, and where they lead -/
abbrev Lk := Int × Int
def LkL (H : Hp) (ts : List Addr) (ps : List Lk) : Prop := Paired (fun (t : Addr) (p : Lk) => H t = some (.tup [.int p.1, .int p.2])) ts ps
def LkAt (H : Hp) (l : Addr) (ps : List Lk) : Prop := ∃ ts : List Addr, H l = some (.lst (ts.map V.ref)) ∧ LkL H ts ps
theorem LkL.get {H : Hp} : ∀ {ts : List Addr} {ps : List Lk} {i : Nat} {t : Addr}, LkL H ts ps → ts[i]? = some t → ∃ p, ps[i]? = some p ∧ H t = some (.tup [.int p.1, .int p.2])
  | _, _, i, t, .nil, h => by cases h
  | _, _, 0, t, .cons e r, h => by
    have z := Option.some.inj h
    subst z
    exact ⟨_, rfl, e⟩
  | _, _, i + 1, t, .cons e r, h => LkL.get (i := i) r (by simpa using h)
theorem LkL.len {H : Hp} {ts : List Addr} {ps : List Lk} (h : LkL H ts ps) : ts.length = ps.length := Paired.length h
def succs (ps : List Lk) (s : Int) : List Int := (ps.filter fun p => decide (p.1 = s)).map (·.2)
theorem succs_snoc (ps : List Lk) (p : Lk) (s : Int) : succs (ps ++ [p]) s = if p.1 = s then succs ps s ++ [p.2] else succs ps s := by
  unfold succs
  rw [List.filter_append, List.map_append]
  by_cases h : p.1 = s
  · rw [if_pos h, List.filter_cons, if_pos (decide_eq_true h)]
    rfl
  · rw [if_neg h, List.filter_cons, if_neg (by simpa using h)]
    simp
theorem succs_len (ps : List Lk) (s : Int) : (succs ps s).length ≤ ps.length := by
  unfold succs
  rw [List.length_map]
  exact List.length_filter_le _ _
/-- the dict that says where each state leads, its lists younger than H0 -/
def FoAt (H0 H : Hp) (d : Addr) (ps : List Lk) (kvs : List (Key × V)) : Prop := H d = some (.dK kvs) ∧
  (∀ s : Int, (valV kvs (.inl s) = none ∧ succs ps s = []) ∨ ∃ l, valV kvs (.inl s) = some (.ref l) ∧ l ≠ d ∧ H0 l = none ∧ H l = some (.lst ((succs ps s).map V.int))) ∧
  ∀ s u l, valV kvs (.inl s) = some (.ref l) → valV kvs (.inl u) = some (.ref l) → s = u
/-- one link more -/
theorem fo_old {H0 H : Hp} {d l : Addr} {ps : List Lk} {kvs : List (Key × V)} {p : Lk} (F : FoAt H0 H d ps kvs) (h : valV kvs (.inl p.1) = some (.ref l)) : FoAt H0 (upd H l (.lst (((succs ps p.1).map V.int) ++ [.int p.2]))) d (ps ++ [p]) kvs := by
  obtain ⟨f1, f2, f3⟩ := F
  have nld : l ≠ d := by
    rcases f2 p.1 with ⟨z, _⟩ | ⟨l2, z, n, _⟩
    · rw [h] at z
      cases z
    · rw [h] at z
      cases z
      exact n
  refine ⟨by rw [upd_ne (Ne.symm nld)]; exact f1, fun s => ?_, f3⟩
  rw [succs_snoc]
  by_cases e : p.1 = s
  · rw [if_pos e]
    subst e
    rcases f2 p.1 with ⟨z, _⟩ | ⟨l2, z, n, m, _⟩
    · rw [h] at z
      cases z
    · rw [h] at z
      cases z
      exact .inr ⟨l, h, nld, m, by rw [upd_same, List.map_append]; rfl⟩
  · rw [if_neg e]
    rcases f2 s with z | ⟨l2, z1, z2, z3, z4⟩
    · exact .inl z
    · have n : l2 ≠ l := fun q => e (f3 p.1 s l h (by rw [← q]; exact z1))
      exact .inr ⟨l2, z1, z2, z3, by rw [upd_ne n]; exact z4⟩
theorem fo_new {H0 H : Hp} {d q : Addr} {ps : List Lk} {kvs : List (Key × V)} {p : Lk} (F : FoAt H0 H d ps kvs) (h : valV kvs (.inl p.1) = none) (hq : H q = none) (hq0 : H0 q = none) :
    FoAt H0 (upd (upd H d (.dK (putK kvs (.inl p.1) (.ref q)))) q (.lst [.int p.2])) d (ps ++ [p]) (putK kvs (.inl p.1) (.ref q)) := by
  obtain ⟨f1, f2, f3⟩ := F
  have nqd : q ≠ d := fun z => by rw [z, f1] at hq; cases hq
  have e0 : succs ps p.1 = [] := by
    rcases f2 p.1 with ⟨_, z⟩ | ⟨l, z, _⟩
    · exact z
    · rw [h] at z
      cases z
  have old : ∀ {s : Int} {l : Addr}, valV kvs (.inl s) = some (.ref l) → l ≠ q := fun {s l} z y => by
    rcases f2 s with ⟨w, _⟩ | ⟨l2, w, _, _, w4⟩
    · rw [z] at w
      cases w
    · rw [z] at w
      cases w
      rw [y, hq] at w4
      cases w4
  refine ⟨by rw [upd_ne (Ne.symm nqd), upd_same], fun s => ?_, fun s u l h1 h2 => ?_⟩
  · rw [succs_snoc, valV_put]
    by_cases e : p.1 = s
    · subst e
      rw [if_pos rfl, if_pos rfl, e0]
      exact .inr ⟨q, rfl, nqd, hq0, upd_same⟩
    · rw [if_neg e, if_neg (fun z => e (by injection z with z; exact z.symm))]
      rcases f2 s with z | ⟨l2, z1, z2, z3, z4⟩
      · exact .inl z
      · exact .inr ⟨l2, z1, z2, z3, by rw [upd_ne (old z1), upd_ne z2]; exact z4⟩
  · rw [valV_put] at h1 h2
    by_cases e1 : (Sum.inl s : Key) = .inl p.1
    · by_cases e2 : (Sum.inl u : Key) = .inl p.1
      · injection e1 with e1
        injection e2 with e2
        rw [e1, e2]
      · rw [if_pos e1] at h1
        rw [if_neg e2] at h2
        cases h1
        exact absurd rfl (old h2)
    · rw [if_neg e1] at h1
      by_cases e2 : (Sum.inl u : Key) = .inl p.1
      · rw [if_pos e2] at h2
        cases h2
        exact absurd rfl (old h1)
      · rw [if_neg e2] at h2
        exact f3 s u l h1 h2
end Rz

namespace Rz
open PySem PySem.Spec PyProof.Rows L2
/-- the states that moves name -/
def named : List Mv → List Int
  | [] => []
  | m :: ms => m.1 :: m.2.2 :: named ms
theorem named_append (a b : List Mv) : named (a ++ b) = named a ++ named b := by
  induction a with
  | nil => rfl
  | cons m a ih => show m.1 :: m.2.2 :: named (a ++ b) = _; rw [ih]; rfl
theorem named_len : ∀ a : List Mv, (named a).length = 2 * a.length
  | [] => rfl
  | m :: a => by
    show (named a).length + 1 + 1 = 2 * (a.length + 1)
    rw [named_len a]
    omega
theorem mem_named {x : Int} : ∀ {a : List Mv}, x ∈ named a ↔ ∃ m ∈ a, x = m.1 ∨ x = m.2.2
  | [] => by simp [named]
  | m :: a => by
    show x ∈ m.1 :: m.2.2 :: named a ↔ _
    rw [List.mem_cons, List.mem_cons, mem_named]
    constructor
    · rintro (h | h | ⟨k, hk, h⟩)
      · exact ⟨m, List.mem_cons_self, .inl h⟩
      · exact ⟨m, List.mem_cons_self, .inr h⟩
      · exact ⟨k, List.mem_cons_of_mem _ hk, h⟩
    · rintro ⟨k, hk, h⟩
      rcases List.mem_cons.mp hk with e | e
      · subst e
        exact h.imp id .inl
      · exact .inr (.inr ⟨k, e, h⟩)
def sp_check_states (cB : Addr) : Sp := fun vs H Q E => ∃ (n : Int) (l m : Addr) (ls : List Int) (ms : List Mv), vs = [.int n, .ref l, .ref m] ∧ H l = some (.lst (ls.map V.int)) ∧ MAt H m ms ∧ ls.length ≤ 100000 ∧ ms.length ≤ 100000 ∧ (∀ x ∈ ls ++ named ms, x.natAbs < 2 ^ 64) ∧
  (okStates n ls ms → ∀ H', Same H H' → Q .non H') ∧ (¬ okStates n ls ms → ∀ H', Same H H' → E (.ref cB) none H')
section
variable {w : World} {K : PySem.W.Frag} {mg : Str → Option Value} {base : Heap}
theorem sc_check_states : FnScope N__check_states P__check_states (defScope s__check_states) := ⟨rfl, rfl, rfl, by decide +kernel, rfl, by decide +kernel, by decide +kernel⟩
theorem ok_check_states (T : Txt K mg) : FnOk prg w K mg base (L2.CX prg w) 2 T.f__check_states T.fd__check_states P__check_states (sp_check_states T.c_BadLot) := by
  refine T.F__check_states.okX sc_check_states (fun vs H Q E h => ?_) (fun cdv A outer s H vs Q E hr h => ?_)
  · obtain ⟨n, l, m, ls, ms, rfl, _⟩ := h
    rfl
  obtain ⟨n, l, m, ls, ms, rfl, hl, hm, zl, zm, hb, kg, kb⟩ := h
  have nd := sc_check_states.nd
  obtain ⟨tM, k_MOST_STATES⟩ := T.k_MOST_STATES
  have tk : Takes (cxOf (L2.CX prg w) prg w K mg base N__check_states "_check_states" (defScope s__check_states) T.f__check_states cdv A outer s H E) (fun cls d _ H' => E cls d H') := takes_of rfl rfl rfl rfl
  refine ⟨_, (pss_cons (ps_if (pt_not (pt_chain op_le op_le pe_int (pv 0) (pe_glob (v := .int 40) (by rfl) k_MOST_STATES ⟨_, rfl⟩))) (pss_one (ps_raise rfl tk (pmk_own PySem.F.excBase_ValueError T.o_BadLot T.m_BadLot T.kp_BadLot (raises_own T.r_BadLot T.t_BadLot) rfl))) pss_nil)
    (pss_cons (ps_set (i := 3) nd rfl (Or.inl rfl) (pe_callTy call_listS (by rfl) T.n_list (by decide +kernel) (pa_cons (pv 1) pa_nil)))
    (pss_cons (ps_for (passes_of rfl) rfl (pi_list (pv 2)) (pg_tup rfl (pgs_cons (pg_name (i := 4) nd rfl (Or.inl rfl)) (pgs_cons (pg_name (i := 5) nd rfl (Or.inl rfl)) (pgs_cons (pg_name (i := 6) nd rfl (Or.inl rfl)) pgs_nil))))
      (pss_one (ps_expr (pe_bm PySem.F.plainAttrs_list PySem.F.slot_list_extend PySem.F.type_list_extend mt_extend (pv 3) (pa_cons (pe_lst (pa_cons (pv 4) (pa_cons (pv 6) pa_nil))) pa_nil)))))
    (pss_one (ps_for (passes_of rfl) rfl (pi_list (pv 3)) (pg_name (i := 4) nd rfl (Or.inl rfl))
      (pss_one (ps_if (pt_not (pt_chain op_le op_lt pe_int (pv 4) (pv 0))) (pss_one (ps_raise rfl tk (SkE.pmk_own1 PySem.F.excBase_ValueError T.o_BadLot T.m_BadLot T.kp_BadLot (raises_own T.r_BadLot T.t_BadLot) rfl (pe_joined (.cons pe_str (.cons (pe_fmt (pv 4)) .nil)))))) pss_nil))))))), ?_⟩
  have okb : ∀ {H2 : Hp}, Same H H2 → ¬ okStates n ls ms → E (.ref T.c_BadLot) none H2 := fun S h => kb h _ S
  refine ⟨_, rfl, _, _, rfl, rfl, decide (1 ≤ n), rfl, ?_⟩
  by_cases h1 : 1 ≤ n
  · rw [decide_eq_true h1]
    refine iteT ⟨_, _, rfl, rfl, decide (n ≤ 40), rfl, ?_⟩
    by_cases h40 : n ≤ 40
    · rw [decide_eq_true h40]
      refine iteF ?_
      unfold rListS
      refine ⟨_, rfl, l, _, rfl, SqL.of hl, fun p hp => ?_⟩
      have S1 := Rz.Same.new (o := .lst (ls.map V.int)) (Same.refl H) hp
      have e1 : upd H p (.lst (ls.map V.int)) p = some (.lst (ls.map V.int)) := upd_same
      generalize upd H p (.lst (ls.map V.int)) = H1 at S1 e1
      obtain ⟨ts, em, hM⟩ := hm
      have hpl : H p = none := hp
      refine ⟨_, rfl, m, rfl, ⟨_, SqL.of (S1 _ _ em)⟩, for_list (K := K) (a := m) (xs := ts.map V.ref) (fun i σ H' => ∃ v4 v5 v6 : Option V, σ = [some (.int n), some (.ref l), some (.ref m), some (.ref p), v4, v5, v6] ∧ Same H H' ∧ H' p = some (.lst ((ls ++ named (ms.take i)).map V.int)))
        ⟨none, none, none, rfl, S1, by show H1 p = some (.lst ((ls ++ []).map V.int)); rw [List.append_nil]; exact e1⟩ (fun i σ H' _ ⟨_, _, _, _, S, _⟩ => SqL.of (S _ _ em)) ?_ ?_⟩
      · rintro i y σ H' hi ⟨v4, v5, v6, rfl, S, e⟩
        obtain ⟨t, ht, rfl⟩ := refs_get hi
        obtain ⟨k, hk, et⟩ := hM.get ht
        have ik : i < ms.length := (List.getElem?_eq_some_iff.mp hk).1
        have nl := named_len (ms.take i)
        rw [List.length_take] at nl
        refine ⟨t, _, rfl, SqT.of (S _ _ et), rfl, _, _, rfl, _, _, rfl, _, _, rfl, rfl, ?_⟩
        refine ⟨_, rfl, .inl ⟨rfl, _, SqL.of e⟩, _, rfl, _, rfl, by show 2 ≤ sizeLine; decide, fun q hq => ?_⟩
        have S2 := Rz.Same.new (o := .lst [.int k.1, .int k.2.2]) (Same.refl H') hq
        refine ⟨p, q, _, _, rfl, rfl, S2 _ _ e, upd_same, ?_, ?_⟩
        · rw [List.length_map, List.length_append, sizeLine_eq]
          show _ + 2 ≤ _
          omega
        · refine ⟨_, _, _, rfl, Rz.Same.upd (S.trans S2) hpl, ?_⟩
          rw [upd_same, List.take_add_one, hk]
          show _ = some (HO.lst ((ls ++ named (ms.take i ++ [k])).map V.int))
          rw [named_append, ← List.append_assoc]
          simp only [List.map_append]
          rfl
      · rintro σ H' ⟨v4, v5, v6, rfl, S, e⟩
        rw [List.length_map, hM.len, List.take_length] at e
        have nl := named_len ms
        refine ⟨_, rfl, p, rfl, ⟨_, SqL.of e⟩, for_list (K := K) (a := p) (xs := (ls ++ named ms).map V.int) (fun i σ H2 => ∃ v4 v5 v6 : Option V, σ = [some (.int n), some (.ref l), some (.ref m), some (.ref p), v4, v5, v6] ∧ H2 = H' ∧ ∀ j x, j < i → (ls ++ named ms)[j]? = some x → 0 ≤ x ∧ x < n)
          ⟨v4, v5, v6, rfl, rfl, fun j x hj => absurd hj (Nat.not_lt_zero j)⟩ (fun i σ H2 _ ⟨_, _, _, _, z, _⟩ => by rw [z]; exact SqL.of e) ?_ ?_⟩
        · rintro i y σ H2 hi ⟨v4, v5, v6, rfl, rfl, ok⟩
          obtain ⟨x, hx, rfl⟩ := mapi_get hi
          have inx : x ∈ ls ++ named ms := List.mem_of_getElem? hx
          have bad : ¬ (0 ≤ x ∧ x < n) → ¬ okStates n ls ms := fun h z => h (by
            rcases List.mem_append.mp inx with q | q
            · exact z.2.1 x q
            · obtain ⟨k, hk, e1 | e1⟩ := mem_named.mp q
              · rw [e1]
                exact (z.2.2 k hk).1
              · rw [e1]
                exact (z.2.2 k hk).2)
          have lg : x.natAbs.log2 < 1920 := log_small (hb x inx) (by decide)
          have l1 := str_int_len lg
          have raise : ¬ (0 ≤ x ∧ x < n) → tJs [tC (V.str "the lot has no state "), tFmt (tVar 4)] Str.empty [some (.int n), some (.ref l), some (.ref m), some (.ref p), some (.int x), v5, v6] H2 fun out H1 => E (.ref T.c_BadLot) none H1 := fun h => by
            refine ⟨"the lot has no state ", rfl, by decide +kernel, _, rfl, .inr ⟨x, rfl, lg, _, rfl, ?_, okb S (bad h)⟩⟩
            rw [Str.length_append, Str.length_append, sizeLine_eq]
            show 0 + 21 + _ ≤ _
            omega
          refine ⟨_, rfl, _, _, rfl, rfl, decide (0 ≤ x), rfl, ?_⟩
          by_cases g0 : 0 ≤ x
          · rw [decide_eq_true g0]
            refine iteT ⟨_, rfl, _, _, rfl, rfl, decide (x < n), rfl, ?_⟩
            by_cases g1 : x < n
            · rw [decide_eq_true g1]
              refine iteF ⟨_, _, _, rfl, rfl, fun j z hj hz => ?_⟩
              by_cases ej : j < i
              · exact ok j z ej hz
              · have : j = i := by omega
                subst this
                rw [hx] at hz
                cases hz
                exact ⟨g0, g1⟩
            · rw [decide_eq_false g1]
              exact iteT (raise fun z => g1 z.2)
          · rw [decide_eq_false g0]
            exact iteF ⟨false, rfl, iteT (raise fun z => g0 z.1)⟩
        · rintro σ H2 ⟨v4, v5, v6, rfl, rfl, ok⟩
          have all : ∀ x ∈ ls ++ named ms, 0 ≤ x ∧ x < n := fun x hx => by
            obtain ⟨j, hj, e1⟩ := List.getElem_of_mem hx
            exact ok j x (by simpa using hj) (by rw [List.getElem?_eq_getElem hj, e1])
          exact kg ⟨⟨h1, h40⟩, fun x hx => all x (List.mem_append_left _ hx), fun k hk => ⟨all _ (List.mem_append_right _ (mem_named.mpr ⟨k, hk, .inl rfl⟩)), all _ (List.mem_append_right _ (mem_named.mpr ⟨k, hk, .inr rfl⟩))⟩⟩ _ S
    · rw [decide_eq_false h40]
      exact iteT (okb (Same.refl H) fun z => h40 z.1.2)
  · rw [decide_eq_false h1]
    exact iteF ⟨false, rfl, iteT (okb (Same.refl H) fun z => h1 z.1.1)⟩
end
end Rz

namespace Rz
open PySem PySem.Spec PyProof.Rows L2
/-! ### where a state goes with a sign -/
def leadK (m : Mv) : List Key := [.inl m.1, .inr m.2.1]
def Lead (ms : List Mv) (k : List Key) : Option Int := (ms.find? fun m => decide (leadK m = k)).map (·.2.2)
/-- each sign is one sign, and leads to one state -/
def okLeads (ms : List Mv) : Prop := (∀ m ∈ ms, isSg m.2.1 = true) ∧ ∀ a ∈ ms, ∀ b ∈ ms, leadK a = leadK b → a.2.2 = b.2.2
theorem lead_snoc (ms : List Mv) (m : Mv) (k : List Key) : Lead (ms ++ [m]) k = match Lead ms k with
    | some t => some t
    | none => if leadK m = k then some m.2.2 else none := by
  unfold Lead
  rw [List.find?_append]
  cases e : ms.find? fun m => decide (leadK m = k) with
  | some a => rfl
  | none =>
    rw [Option.none_or, List.find?_cons]
    by_cases h : leadK m = k
    · rw [decide_eq_true h, if_pos h]
      rfl
    · rw [decide_eq_false h, if_neg h]
      rfl
theorem lead_mem {ms : List Mv} {k : List Key} {t : Int} (h : Lead ms k = some t) : ∃ m ∈ ms, leadK m = k ∧ m.2.2 = t := by
  unfold Lead at h
  cases e : ms.find? fun m => decide (leadK m = k) with
  | none => rw [e] at h; cases h
  | some a =>
    rw [e] at h
    have := List.find?_some e
    exact ⟨a, List.mem_of_find?_eq_some e, by simpa using this, Option.some.inj h⟩
def sp_leads_of (cB : Addr) : Sp := fun vs H Q E => ∃ (m : Addr) (ms : List Mv), vs = [.ref m] ∧ MAt H m ms ∧ ms.length ≤ 100000 ∧ (∀ x ∈ ms, x.2.1.length ≤ 1000000) ∧
  (okLeads ms → ∀ H' d kvs, Same H H' → H d = none → H' d = some (.dT kvs) → (∀ k, valV kvs k = (Lead ms k).map V.int) → Q (.ref d) H') ∧ (¬ okLeads ms → ∀ H', Same H H' → E (.ref cB) none H')
section
variable {w : World} {K : PySem.W.Frag} {mg : Str → Option Value} {base : Heap}
theorem sc_leads_of : FnScope N__leads_of P__leads_of (defScope s__leads_of) := ⟨rfl, rfl, rfl, by decide +kernel, rfl, by decide +kernel, by decide +kernel⟩
theorem ok_leads_of (T : Txt K mg) : FnOk prg w K mg base (L2.CX prg w) 3 T.f__leads_of T.fd__leads_of P__leads_of (sp_leads_of T.c_BadLot) := by
  refine T.F__leads_of.okX sc_leads_of (fun vs H Q E h => ?_) (fun cdv A outer s H vs Q E hr h => ?_)
  · obtain ⟨m, ms, rfl, _⟩ := h
    rfl
  obtain ⟨m, ms, rfl, hm, zm, zs, kg, kb⟩ := h
  have nd := sc_leads_of.nd
  have tk : Takes (cxOf (L2.CX prg w) prg w K mg base N__leads_of "_leads_of" (defScope s__leads_of) T.f__leads_of cdv A outer s H E) (fun cls d _ H' => E cls d H') := takes_of rfl rfl rfl rfl
  have hu : (A.deeper (envOfC "_leads_of" (defScope s__leads_of) s.heap.objs.size T.f__leads_of cdv)).units + 1 < cLine := by
    have := hr.un
    omega
  refine ⟨_, (pss_cons (ps_set (i := 1) nd rfl (Or.inl rfl) pe_dnewT)
    (pss_cons (ps_for (passes_of rfl) rfl (pi_list (pv 0)) (pg_tup rfl (pgs_cons (pg_name (i := 2) nd rfl (Or.inl rfl)) (pgs_cons (pg_name (i := 3) nd rfl (Or.inl rfl)) (pgs_cons (pg_name (i := 4) nd rfl (Or.inl rfl)) pgs_nil))))
      (pss_cons (ps_if (pt_not (pt_val (pe_fn (ok_is_sign T) (hr.mono (by decide)) (by rfl) T.m_is_sign T.F_is_sign.kp T.b_is_sign .nil (fun _ => atN _) (pa_cons (pv 3) pa_nil)))) (pss_one (ps_raise rfl tk (pmk_own PySem.F.excBase_ValueError T.o_BadLot T.m_BadLot T.kp_BadLot (raises_own T.r_BadLot T.t_BadLot) rfl))) pss_nil)
      (pss_cons (ps_if (pt_cmpR op_ne (pe_dget2 hu (pv 1) (pe_tup (pa_cons (pv 2) (pa_cons (pv 3) pa_nil))) (pv 4) ⟨rfl, rfl, rfl, rfl⟩) (pv 4) (nomark _)) (pss_one (ps_raise rfl tk (pmk_own PySem.F.excBase_ValueError T.o_BadLot T.m_BadLot T.kp_BadLot (raises_own T.r_BadLot T.t_BadLot) rfl))) pss_nil)
      (pss_one (ps_dput hu (pv 1) (pe_tup (pa_cons (pv 2) (pa_cons (pv 3) pa_nil))) (pv 4) rfl)))))
    (pss_one (ps_ret (pv 1))))), ?_⟩
  refine fun d hd => ?_
  have S0 := Rz.Same.new (o := .dT []) (Same.refl H) hd
  have e0 : upd H d (.dT []) d = some (.dT []) := upd_same
  generalize upd H d (.dT []) = H0 at S0 e0
  obtain ⟨ts, em, hM⟩ := hm
  refine ⟨_, rfl, m, rfl, ⟨_, SqL.of (S0 _ _ em)⟩, for_list (K := K) (a := m) (xs := ts.map V.ref) (fun i σ H' => ∃ (v2 v3 v4 : Option V) (kvs : List (List Key × V)), σ = [some (.ref m), some (.ref d), v2, v3, v4] ∧ Same H H' ∧ H' d = some (.dT kvs) ∧ kvs.length ≤ i ∧ (∀ k, valV kvs k = (Lead (ms.take i) k).map V.int) ∧ okLeads (ms.take i))
    ⟨none, none, none, [], rfl, S0, e0, Nat.le_refl _, fun k => rfl, (fun x hx => by simp at hx), fun a ha => by simp at ha⟩ (fun i σ H' _ ⟨_, _, _, _, _, S, _⟩ => SqL.of (S _ _ em)) ?_ ?_⟩
  · rintro i y σ H' hi ⟨v2, v3, v4, kvs, rfl, S, ed, zk, hv, okt⟩
    obtain ⟨t, ht, rfl⟩ := refs_get hi
    obtain ⟨k, hk, et⟩ := hM.get ht
    have ik : i < ms.length := (List.getElem?_eq_some_iff.mp hk).1
    have ink : k ∈ ms := List.mem_of_getElem? hk
    have tk1 : ms.take (i + 1) = ms.take i ++ [k] := by rw [List.take_add_one, hk]; rfl
    refine ⟨t, _, rfl, SqT.of (S _ _ et), rfl, _, _, rfl, _, _, rfl, _, _, rfl, rfl, ?_⟩
    refine ⟨_, rfl, k.2.1, rfl, zs k ink, isSg k.2.1, rfl, ?_⟩
    have two : (2 : Nat) ≤ sizeLine := by decide
    cases hsg : isSg k.2.1 with
    | false => exact iteT (kb (fun z => by have := z.1 k ink; rw [hsg] at this; cases this) H' S)
    | true =>
      refine iteF ⟨_, rfl, d, rfl, .inr ⟨kvs, .inl ed⟩, _, rfl, _, rfl, two, fun b hb => ?_⟩
      have S1 := Rz.Same.new (o := .tup [.int k.1, .str k.2.1]) (Same.refl H') hb
      have eb : upd H' b (.tup [.int k.1, .str k.2.1]) b = some (.tup ((leadK k).map kV)) := upd_same
      have ed1 := S1 _ _ ed
      have S2 := S.trans S1
      generalize upd H' b (.tup [.int k.1, .str k.2.1]) = H1 at S1 eb ed1 S2
      refine ⟨_, rfl, _, DGet.t ed1 eb, ?_⟩
      rw [hv]
      have goput : (Lead (ms.take i) (leadK k) = none ∨ Lead (ms.take i) (leadK k) = some k.2.2) → sDPut (tVar 1) (tTup (tCons (tVar 2) (tCons (tVar 3) tNil))) (tVar 4) { nx := fun σ H' => ∃ (v2 v3 v4 : Option V) (kvs : List (List Key × V)), σ = [some (.ref m), some (.ref d), v2, v3, v4] ∧ Same H H' ∧ H' d = some (.dT kvs) ∧ kvs.length ≤ i + 1 ∧ (∀ k, valV kvs k = (Lead (ms.take (i + 1)) k).map V.int) ∧ okLeads (ms.take (i + 1)), rt := Q }
          [some (.ref m), some (.ref d), some (.int k.1), some (.str k.2.1), some (.int k.2.2)] H1 := fun hl => by
        refine ⟨_, rfl, _, rfl, _, rfl, _, rfl, two, fun c hc => ?_⟩
        have S3 := Rz.Same.new (o := .tup [.int k.1, .str k.2.1]) (Same.refl H1) hc
        have ec : upd H1 c (.tup [.int k.1, .str k.2.1]) c = some (.tup ((leadK k).map kV)) := upd_same
        have ed2 := S3 _ _ ed1
        have S4 := S2.trans S3
        generalize upd H1 c (.tup [.int k.1, .str k.2.1]) = H2 at S3 ec ed2 S4
        refine ⟨d, _, rfl, DPut.t ed2 ec (by rw [sizeLine_eq]; omega), ?_⟩
        refine ⟨_, _, _, _, rfl, Rz.Same.upd S4 hd, upd_same, Nat.le_trans (length_putK _ _ _) (by omega), fun q => ?_, ?_⟩
        · rw [valV_put, hv, tk1, lead_snoc]
          by_cases hq : q = leadK k
          · rw [if_pos hq, hq]
            rcases hl with hl | hl
            · rw [hl]
              dsimp only
              rw [if_pos rfl]
              rfl
            · rw [hl]
              rfl
          · rw [if_neg hq]
            cases Lead (ms.take i) q with
            | none =>
              dsimp only
              rw [if_neg (fun z => hq z.symm)]
            | some t => rfl
        · rw [tk1]
          refine ⟨fun x hx => ?_, ?_⟩
          · rcases List.mem_append.mp hx with z | z
            · exact okt.1 x z
            · rw [List.mem_singleton.mp z]
              exact hsg
          · have one : ∀ x ∈ ms.take i, leadK x = leadK k → x.2.2 = k.2.2 := fun x hx e => by
              have hn : Lead (ms.take i) (leadK k) ≠ none := fun z => by
                unfold Lead at z
                rw [Option.map_eq_none_iff, List.find?_eq_none] at z
                exact z x hx (by rw [decide_eq_true e])
              rcases hl with hl | hl
              · exact absurd hl hn
              · obtain ⟨y, hy, e1, e2⟩ := lead_mem hl
                rw [okt.2 x hx y hy (e.trans e1.symm), e2]
            intro x hx y hy e
            rcases List.mem_append.mp hx with z | z <;> rcases List.mem_append.mp hy with w2 | w2
            · exact okt.2 x z y w2 e
            · rw [List.mem_singleton.mp w2] at e ⊢
              exact one x z e
            · rw [List.mem_singleton.mp z] at e ⊢
              exact (one y w2 e.symm).symm
            · rw [List.mem_singleton.mp z, List.mem_singleton.mp w2]
      cases hl : Lead (ms.take i) (leadK k) with
      | none =>
        refine ⟨_, rfl, rfl, _, rfl, ?_⟩
        show if (!decide (V.int k.2.2 = V.int k.2.2)) = true then _ else _
        rw [decide_eq_true rfl]
        exact iteF (goput (.inl hl))
      | some t =>
        refine ⟨_, rfl, rfl, _, rfl, ?_⟩
        show if (!decide (V.int t = V.int k.2.2)) = true then _ else _
        by_cases h : t = k.2.2
        · rw [decide_eq_true (by rw [h])]
          exact iteF (goput (.inr (by rw [hl, h])))
        · rw [decide_eq_false (fun z => h (by injection z))]
          refine iteT (kb (fun z => ?_) H1 S2)
          obtain ⟨y, hy, e1, e2⟩ := lead_mem hl
          exact h (by rw [← e2]; exact z.2 y (List.mem_of_mem_take hy) k ink e1)
  · rintro σ H' ⟨v2, v3, v4, kvs, rfl, S, ed, zk, hv, okt⟩
    rw [List.length_map, hM.len, List.take_length] at hv okt
    exact ⟨_, rfl, kg okt H' d kvs S hd ed hv⟩
end
end Rz

namespace Rz
open PySem PySem.Spec PyProof.Rows L2
/-- what the starts lead to -/
inductive Reach (ps : List Lk) (ss : List Int) : Int → Prop
  | start {x : Int} : x ∈ ss → Reach ps ss x
  | step {x y : Int} : Reach ps ss x → y ∈ succs ps x → Reach ps ss y
def hasK (kvs : List (Key × V)) (x : Int) : Bool := (valV kvs (.inl x)).isSome
/-- the targets that are not reached yet -/
def undone (ps : List Lk) (kvs : List (Key × V)) : Nat := (ps.filter fun p => !hasK kvs p.2).length
theorem filter_le2 {α : Type} {f g : α → Bool} (h : ∀ p, g p = true → f p = true) : ∀ ps : List α, (ps.filter g).length ≤ (ps.filter f).length
  | [] => Nat.le_refl _
  | p :: ps => by
    have r := filter_le2 h ps
    rw [List.filter_cons, List.filter_cons]
    by_cases e : g p = true
    · rw [if_pos e, if_pos (h p e)]
      exact Nat.succ_le_succ r
    · rw [if_neg e]
      by_cases e2 : f p = true
      · rw [if_pos e2]
        exact Nat.le_succ_of_le r
      · rw [if_neg e2]
        exact r
theorem filter_lt2 {α : Type} {f g : α → Bool} (h : ∀ p, g p = true → f p = true) {x : α} (hf : f x = true) (hg : ¬ g x = true) : ∀ ps : List α, x ∈ ps → (ps.filter g).length + 1 ≤ (ps.filter f).length
  | [], z => by cases z
  | p :: ps, z => by
    rw [List.filter_cons, List.filter_cons]
    by_cases ex : x = p
    · subst ex
      rw [if_pos hf, if_neg hg]
      exact Nat.succ_le_succ (filter_le2 h ps)
    · have r := filter_lt2 h hf hg ps ((List.mem_cons.mp z).resolve_left ex)
      by_cases e : g p = true
      · rw [if_pos e, if_pos (h p e)]
        exact Nat.succ_le_succ r
      · rw [if_neg e]
        by_cases e2 : f p = true
        · rw [if_pos e2]
          exact Nat.le_succ_of_le r
        · rw [if_neg e2]
          exact r
theorem hasK_put {R : List (Key × V)} {y z : Int} {v : V} : hasK (putK R (.inl y) v) z = true ↔ z = y ∨ hasK R z = true := by
  unfold hasK
  rw [valV_put]
  by_cases e : (Sum.inl z : Key) = .inl y
  · rw [if_pos e]
    injection e with e
    exact ⟨fun _ => .inl e, fun _ => rfl⟩
  · rw [if_neg e]
    exact ⟨.inr, fun q => q.resolve_left fun k => e (by rw [k])⟩
theorem undone_le (ps : List Lk) (R : List (Key × V)) : undone ps R ≤ ps.length := List.length_filter_le _ _
theorem succs_mem {ps : List Lk} {x y : Int} (h : y ∈ succs ps x) : ∃ p ∈ ps, p.2 = y := by
  unfold succs at h
  obtain ⟨p, hp, e⟩ := List.mem_map.mp h
  exact ⟨p, (List.mem_filter.mp hp).1, e⟩
theorem undone_put {ps : List Lk} {R : List (Key × V)} {x y : Int} {v : V} (h : y ∈ succs ps x) (n : ¬ hasK R y = true) : undone ps (putK R (.inl y) v) + 1 ≤ undone ps R := by
  obtain ⟨p, hp, e⟩ := succs_mem h
  unfold undone
  refine filter_lt2 (x := p) (fun q z => ?_) (by rw [e]; simpa using n) ?_ ps hp
  · have z2 : ¬ hasK (putK R (.inl y) v) q.2 = true := by simpa using z
    have z3 : ¬ hasK R q.2 = true := fun k => z2 (hasK_put.mpr (.inr k))
    simpa using z3
  · have : hasK (putK R (.inl y) v) p.2 = true := hasK_put.mpr (.inl e)
    rw [this]
    simp
theorem reach_all {ps : List Lk} {ss : List Int} {P : Int → Prop} (h0 : ∀ x ∈ ss, P x) (h1 : ∀ x, P x → ∀ y ∈ succs ps x, P y) : ∀ {x}, Reach ps ss x → P x
  | _, .start h => h0 _ h
  | _, .step r h => h1 _ (reach_all h0 h1 r) _ h
def LedW (st lk d D wl : Addr) (H3 : Hp) (ps : List Lk) (ss : List Int) (m : Nat) (σ : L2.St) (H' : Hp) : Prop := ∃ (v3 v4 : Option V) (R : List (Key × V)) (w : List Int), σ = [some (.ref st), some (.ref lk), some (.ref d), v3, v4, some (.ref D), some (.ref wl)] ∧ (∀ b o, b ≠ D → b ≠ wl → H3 b = some o → H' b = some o) ∧ H' D = some (.dK R) ∧ H' wl = some (.lst (w.map V.int)) ∧ R.length + undone ps R ≤ 20000 ∧ w.length + undone ps R ≤ 20000 ∧ (∀ x, hasK R x = true → Reach ps ss x) ∧ (∀ x ∈ ss, hasK R x = true) ∧ (∀ x ∈ w, hasK R x = true) ∧ (∀ x, hasK R x = true → x ∈ w ∨ ∀ y ∈ succs ps x, hasK R y = true) ∧ m = 2 * undone ps R + w.length
def sp_led_to : Sp := fun vs H Q _ => ∃ (st lk : Addr) (ss : List Int) (ps : List Lk), vs = [.ref st, .ref lk] ∧ H st = some (.lst (ss.map V.int)) ∧ LkAt H lk ps ∧ ss.length ≤ 10000 ∧ ps.length ≤ 10000 ∧
  ∀ H' d kvs, Same H H' → H d = none → H' d = some (.dK kvs) → (∀ x, hasK kvs x = true ↔ Reach ps ss x) → Q (.ref d) H'
section
variable {w : World} {K : PySem.W.Frag} {mg : Str → Option Value} {base : Heap}
theorem sc_led_to : FnScope N_led_to P_led_to (defScope s_led_to) := ⟨rfl, rfl, rfl, by decide +kernel, rfl, by decide +kernel, by decide +kernel⟩
theorem ok_led_to (T : Txt K mg) : FnOk prg w K mg base (L2.CX prg w) 2 T.f_led_to T.fd_led_to P_led_to sp_led_to := by
  refine Rz.Fun.okN T.F_led_to sc_led_to (fun vs H Q E h => ?_) (fun cdv A outer s H vs Q E hr h => ?_)
  · obtain ⟨st, lk, ss, ps, rfl, _⟩ := h
    rfl
  obtain ⟨st, lk, ss, ps, rfl, hst, ⟨ts, hlk, hL⟩, zs, zp, k⟩ := h
  have nd := sc_led_to.nd
  have hu : (A.deeper (envOfC "led_to" (defScope s_led_to) s.heap.objs.size T.f_led_to cdv)).units + 1 < cLine := by
    have := hr.un
    omega
  refine ⟨_, (pss_cons (ps_set (i := 2) nd rfl (Or.inl rfl) pe_dnewK)
    (pss_cons (ps_for PassesOwn.never rfl (pi_list (pv 1)) (pg_tup rfl (pgs_cons (pg_name (i := 3) nd rfl (Or.inl rfl)) (pgs_cons (pg_name (i := 4) nd rfl (Or.inl rfl)) pgs_nil)))
      (pss_one (ps_expr (pe_bm PySem.F.plainAttrs_list PySem.F.slot_list_append PySem.F.type_list_append mt_append (pe_dsetd (pv 2) (pv 3) (pe_lst pa_nil) ⟨rfl, rfl, rfl, rfl⟩) (pa_cons (pv 4) pa_nil)))))
    (pss_cons (ps_setDc (i := 5) (own := [("state", 3)]) (g := gName 3) (tt := tYes) rfl nd rfl rfl (dsw_true rfl rfl rfl (by decide +kernel)) (pi_list (pv 0)) (blkOk_by (N := N_led_to) (sc := defScope s_led_to) (by decide +kernel)) (fun _ _ _ _ _ => pg_name (i := 3) nd rfl (Or.inl rfl)) (fun _ _ _ _ _ => pts_nil) (fun _ _ _ _ _ => pv 3) (fun _ _ _ _ _ => pe_bl))
    (pss_cons (ps_set (i := 6) nd rfl (Or.inl rfl) (pe_callTy call_listS (by rfl) T.n_list (by decide +kernel) (pa_cons (pv 0) pa_nil)))
    (pss_cons (ps_while PassesOwn.never (pt_truth (pv 6) (by intro _; rfl)) (pss_cons (ps_set (i := 3) nd rfl (Or.inl rfl) (pe_bm0 PySem.F.plainAttrs_list PySem.F.slot_list_pop PySem.F.type_list_pop mt_pop (pv 6)))
      (pss_one (ps_for PassesOwn.never rfl (pi_list (pe_dget2 hu (pv 2) (pv 3) (pe_lst pa_nil) ⟨rfl, rfl, rfl, rfl⟩)) (pg_name (i := 4) nd rfl (Or.inl rfl))
        (pss_one (ps_if (pt_cmp (pc_dnotin hu (pv 4) (pv 5)) rfl) (pss_cons (ps_dput hu (pv 5) (pv 4) pe_bl rfl)
          (pss_one (ps_expr (pe_bm PySem.F.plainAttrs_list PySem.F.slot_list_append PySem.F.type_list_append mt_append (pv 6) (pa_cons (pv 4) pa_nil))))) pss_nil))))))
    (pss_one (ps_ret (pv 5)))))))), ?_⟩
  refine fun d hd => ?_
  have S0 := Rz.Same.new (o := .dK []) (Same.refl H) hd
  have F0 : FoAt H (upd H d (.dK [])) d [] [] := ⟨upd_same, fun s => .inl ⟨rfl, rfl⟩, fun s u l z => by cases z⟩
  generalize upd H d (.dK []) = H0 at S0 F0
  refine ⟨_, rfl, lk, rfl, ⟨_, SqL.of (S0 _ _ hlk)⟩, for_list (K := K) (a := lk) (xs := ts.map V.ref) (fun i σ H' => ∃ (v3 v4 : Option V) (kvs : List (Key × V)), σ = [some (.ref st), some (.ref lk), some (.ref d), v3, v4, none, none] ∧ Same H H' ∧ FoAt H H' d (ps.take i) kvs ∧ kvs.length ≤ i)
    ⟨none, none, [], rfl, S0, F0, Nat.le_refl _⟩ (fun i σ H' _ ⟨_, _, _, _, S, _⟩ => SqL.of (S _ _ hlk)) ?_ ?_⟩
  · rintro i y σ H' hi ⟨v3, v4, kvs, rfl, S, F, zk⟩
    obtain ⟨t, ht, rfl⟩ := refs_get hi
    obtain ⟨p, hp, et⟩ := hL.get ht
    have ip : i < ps.length := (List.getElem?_eq_some_iff.mp hp).1
    have tk1 : ps.take (i + 1) = ps.take i ++ [p] := by rw [List.take_add_one, hp]; rfl
    refine ⟨t, _, rfl, SqT.of (S _ _ et), rfl, _, _, rfl, _, _, rfl, rfl, ?_⟩
    refine ⟨_, rfl, d, rfl, .inl ⟨kvs, .inl F.1⟩, _, rfl, by show 0 ≤ sizeLine; decide, fun q hq => ?_⟩
    have S1 := Rz.Same.new (o := .lst []) (Same.refl H') hq
    have F1 : FoAt H (upd H' q (.lst [])) d (ps.take i) kvs := ⟨S1 _ _ F.1, fun s => (F.2.1 s).imp id fun ⟨l, z1, z2, z3, z4⟩ => ⟨l, z1, z2, z3, S1 _ _ z4⟩, F.2.2⟩
    have eq1 : upd H' q (.lst []) q = some (.lst []) := upd_same
    refine ⟨kvs, .inl p.1, F1.1, rfl, by rw [sizeLine_eq]; omega, fun v hv => ?_, fun hv => ?_⟩
    · rcases F1.2.1 p.1 with ⟨z, _⟩ | ⟨l, z1, nld, hl0, z4⟩
      · rw [hv] at z
        cases z
      · rw [hv] at z1
        cases z1
        have zl := succs_len (ps.take i) p.1
        rw [List.length_take] at zl
        refine ⟨.inl ⟨rfl, _, SqL.of z4⟩, _, rfl, l, _, _, rfl, rfl, z4, by rw [List.length_map, sizeLine_eq]; omega, ?_⟩
        refine ⟨_, _, kvs, rfl, Rz.Same.upd (S.trans S1) hl0, ?_, Nat.le_succ_of_le zk⟩
        rw [tk1]
        exact fo_old F1 hv
    · have nqd : q ≠ d := fun z => by rw [z, F.1] at hq; cases hq
      have e2 : upd (upd H' q (.lst [])) d (.dK (putK kvs (.inl p.1) (.ref q))) q = some (.lst []) := by rw [upd_ne nqd]; exact upd_same
      refine ⟨.inl ⟨rfl, _, SqL.of e2⟩, _, rfl, q, _, _, rfl, rfl, e2, by show 0 < sizeLine; decide, ?_⟩
      have sw : upd (upd (upd H' q (.lst [])) d (.dK (putK kvs (.inl p.1) (.ref q)))) q (.lst ([] ++ [.int p.2])) = upd (upd H' d (.dK (putK kvs (.inl p.1) (.ref q)))) q (.lst [.int p.2]) := by
        funext b
        by_cases e : b = q
        · rw [e, upd_same, upd_same]
          rfl
        · rw [upd_ne e, upd_ne e]
          by_cases e3 : b = d
          · rw [e3, upd_same, upd_same]
          · rw [upd_ne e3, upd_ne e3, upd_ne e]
      have hq0 : H q = none := S.free hq
      refine ⟨_, _, _, rfl, Rz.Same.upd (Rz.Same.upd (S.trans S1) hd) hq0, ?_, Nat.le_trans (length_putK kvs (.inl p.1) (.ref q)) (Nat.succ_le_succ zk)⟩
      rw [tk1, sw]
      exact fo_new F hv hq hq0
  · rintro σ H1 ⟨v3, v4, kvs, rfl, S, F, zk⟩
    rw [List.length_map, hL.len, List.take_length] at F
    refine ⟨_, rfl, st, rfl, ⟨_, SqL.of (S _ _ hst)⟩, fun D hD => dc_list (K := K) (a := st) (xs := ss.map V.int) (fun i H' => Same H1 H' ∧ ∃ R : List (Key × V), H' D = some (.dK R) ∧ R.length ≤ i ∧ ∀ x, hasK R x = true ↔ x ∈ ss.take i)
      ⟨Rz.Same.new (Same.refl H1) hD, [], upd_same, Nat.le_refl _, fun x => ⟨fun z => (by cases z), fun z => (by simp at z)⟩⟩ (fun i H' _ h => SqL.of (h.1 _ _ (S _ _ hst))) ?_ ?_⟩
    · rintro i y H' hi ⟨S1, R, eR, zR, hR⟩
      obtain ⟨x, hx, rfl⟩ := mapi_get hi
      have ix : i < ss.length := (List.getElem?_eq_some_iff.mp hx).1
      refine ⟨rfl, yesT ⟨_, rfl, R, .inl x, rfl, eR, by rw [sizeLine_eq]; omega, Rz.Same.upd S1 hD, _, upd_same, Nat.le_trans (length_putK R (.inl x) (.bl true)) (Nat.succ_le_succ zR), fun z => ?_⟩⟩
      unfold hasK
      rw [valV_put, List.take_add_one, hx]
      by_cases e : (Sum.inl z : Key) = .inl x
      · rw [if_pos e]
        injection e with e
        rw [e]
        exact ⟨fun _ => by simp, fun _ => rfl⟩
      · rw [if_neg e]
        have nz : z ≠ x := fun q => e (by rw [q])
        refine (hR z).trans ⟨fun q => List.mem_append_left _ q, fun q => ?_⟩
        rcases List.mem_append.mp q with q | q
        · exact q
        · exact absurd (by simpa using q) nz
    rintro H2 ⟨S2, R0, eR0, zR0, hR0⟩
    rw [List.length_map] at zR0 hR0
    rw [List.take_length] at hR0
    unfold rListS
    refine ⟨_, rfl, st, _, rfl, SqL.of (S2 _ _ (S _ _ hst)), fun wl hwl => ?_⟩
    have S3 := Rz.Same.new (o := .lst (ss.map V.int)) (Same.refl H2) hwl
    have ew : upd H2 wl (.lst (ss.map V.int)) wl = some (.lst (ss.map V.int)) := upd_same
    have eD := S3 _ _ eR0
    have nDw : D ≠ wl := fun z => by rw [z, hwl] at eR0; cases eR0
    have F3 : ∀ s : Int, (valV kvs (.inl s) = none ∧ succs ps s = []) ∨ ∃ l, valV kvs (.inl s) = some (.ref l) ∧ l ≠ D ∧ l ≠ wl ∧ upd H2 wl (.lst (ss.map V.int)) l = some (.lst ((succs ps s).map V.int)) := fun s => (F.2.1 s).imp id fun ⟨l, z1, z2, z3, z4⟩ =>
      ⟨l, z1, (fun z => by rw [z, hD] at z4; cases z4), (fun z => by rw [z] at z4; rw [S2 _ _ z4] at hwl; cases hwl), S3 _ _ (S2 _ _ z4)⟩
    have ed3 := S3 _ _ (S2 _ _ F.1)
    have ndD : d ≠ D := fun z => by rw [← z, F.1] at hD; cases hD
    have ndw : d ≠ wl := fun z => by rw [← z] at hwl; rw [S2 _ _ F.1] at hwl; cases hwl
    have SH : Same H (upd H2 wl (.lst (ss.map V.int))) := (S.trans S2).trans S3
    generalize upd H2 wl (.lst (ss.map V.int)) = H3 at S3 ew eD F3 ed3 SH
    have hD0 : H D = none := S.free hD
    have hw0 : H wl = none := (S.trans S2).free hwl
    have zw := undone_le ps R0
    refine ⟨LedW st lk d D wl H3 ps ss, ⟨_, v3, v4, R0, ss, rfl, fun b o _ _ h => h, eD, ew, by omega, by omega, fun x h => .start ((hR0 x).mp h), fun x h => (hR0 x).mpr h, fun x h => (hR0 x).mpr h, fun x h => .inl ((hR0 x).mp h), rfl⟩, ?_⟩
    rintro m σ H' ⟨v3, v4, R, w, rfl, I, eR, ewl, zR, zw, c1, c2, c3, c4, rfl⟩
    have SH' : Same H H' := fun b o h => I b o (fun z => by rw [z, hD0] at h; cases h) (fun z => by rw [z, hw0] at h; cases h) (SH b o h)
    by_cases hw : w = []
    · subst hw
      refine ⟨_, rfl, false, .inl ⟨_, SqL.of ewl, rfl⟩, ?_⟩
      exact ⟨_, rfl, k H' D R SH' hD0 eR fun x => ⟨c1 x, reach_all (P := fun x => hasK R x = true) c2 (fun x h y hy => (c4 x h).elim (fun z => by cases z) fun z => z y hy)⟩⟩
    obtain ⟨w0, x, rfl⟩ : ∃ w0 x, w = w0 ++ [x] := ⟨w.dropLast, w.getLast hw, (List.dropLast_concat_getLast hw).symm⟩
    refine ⟨_, rfl, true, .inl ⟨_, SqL.of ewl, by simp⟩, ?_⟩
    show (if true = true then _ else _)
    rw [if_pos rfl]
    refine ⟨fun σ' H1 => ∃ m', m' < 2 * undone ps R + (w0 ++ [x]).length ∧ LedW st lk d D wl H3 ps ss m' σ' H1, fun _ _ h => h, ?_⟩
    have eg : ((w0 ++ [x]).map V.int)[((w0 ++ [x]).map V.int).length - 1]? = some (.int x) := by simp
    have edl : ((w0 ++ [x]).map V.int).dropLast = w0.map V.int := by simp
    refine ⟨_, rfl, .inl ⟨rfl, _, SqL.of ewl⟩, wl, _, _, rfl, rfl, ewl, eg, ?_⟩
    rw [edl]
    have e1D : upd H' wl (.lst (w0.map V.int)) D = some (.dK R) := by rw [upd_ne nDw]; exact eR
    have I1 : ∀ b o, b ≠ D → b ≠ wl → H3 b = some o → upd H' wl (.lst (w0.map V.int)) b = some o := fun b o h1 h2 h => by rw [upd_ne h2]; exact I b o h1 h2 h
    have e1w : upd H' wl (.lst (w0.map V.int)) wl = some (.lst (w0.map V.int)) := upd_same
    generalize upd H' wl (.lst (w0.map V.int)) = H4 at I1 e1D e1w ⊢
    have e1d := I1 d _ ndD ndw ed3
    refine ⟨_, rfl, d, rfl, .inl ⟨kvs, .inl e1d⟩, _, rfl, by show 0 ≤ sizeLine; decide, fun q hq => ?_⟩
    have S5 := Rz.Same.new (o := .lst []) (Same.refl H4) hq
    have n1 : q ≠ D := fun z => by rw [z, e1D] at hq; cases hq
    have n2 : q ≠ wl := fun z => by rw [z, e1w] at hq; cases hq
    obtain ⟨a, ea, nD, nw, el⟩ : ∃ a, (valV kvs (.inl x)).getD (.ref q) = .ref a ∧ a ≠ D ∧ a ≠ wl ∧ upd H4 q (.lst []) a = some (.lst ((succs ps x).map V.int)) := by
      rcases F3 x with ⟨z1, z2⟩ | ⟨l, z1, z2, z3, z4⟩
      · exact ⟨q, by rw [z1]; rfl, n1, n2, by rw [z2]; exact upd_same⟩
      · exact ⟨l, by rw [z1]; rfl, z2, z3, S5 _ _ (I1 l _ z2 z3 z4)⟩
    refine ⟨valV kvs (.inl x), .inl ⟨kvs, .inl x, .inl (S5 _ _ e1d), rfl, rfl⟩, a, ea, ⟨_, SqL.of el⟩, ?_⟩
    have I5 : ∀ b o, b ≠ D → b ≠ wl → H3 b = some o → upd H4 q (.lst []) b = some o := fun b o h1 h2 h => S5 _ _ (I1 b o h1 h2 h)
    have e5D := S5 _ _ e1D
    have e5w := S5 _ _ e1w
    generalize upd H4 q (.lst []) = H5 at I5 e5D e5w el ⊢
    have hx : hasK R x = true := c3 x (by simp)
    rw [List.length_append, List.length_singleton] at zw
    refine for_list (K := K) (a := a) (xs := (succs ps x).map V.int) (fun i σ H'' => ∃ (v4 : Option V) (R' : List (Key × V)) (w' : List Int), σ = [some (.ref st), some (.ref lk), some (.ref d), some (.int x), v4, some (.ref D), some (.ref wl)] ∧ (∀ b o, b ≠ D → b ≠ wl → H5 b = some o → H'' b = some o) ∧ H'' D = some (.dK R') ∧ H'' wl = some (.lst (w'.map V.int)) ∧ R'.length + undone ps R' ≤ 20000 ∧ w'.length + undone ps R' ≤ 20000 ∧ (∀ z, hasK R' z = true → Reach ps ss z) ∧ (∀ z ∈ ss, hasK R' z = true) ∧ (∀ z ∈ w', hasK R' z = true) ∧ (∀ z, hasK R' z = true → z = x ∨ z ∈ w' ∨ ∀ y ∈ succs ps z, hasK R' y = true) ∧ (∀ y ∈ (succs ps x).take i, hasK R' y = true) ∧ 2 * undone ps R' + w'.length < 2 * undone ps R + (w0 ++ [x]).length ∧ hasK R' x = true)
      ⟨v4, R, w0, rfl, fun _ _ _ _ h => h, e5D, e5w, zR, by omega, c1, c2, fun z h => c3 z (List.mem_append_left _ h), fun z h => (c4 z h).elim (fun q => (List.mem_append.mp q).elim (fun q => .inr (.inl q)) (fun q => .inl (by simpa using q))) (fun q => .inr (.inr q)), fun y h => by simp at h, by rw [List.length_append, List.length_singleton]; omega, hx⟩ (fun i σ H'' _ ⟨_, _, _, _, J, _⟩ => SqL.of (J a _ nD nw el)) ?_ ?_
    · rintro i y σ H'' hi ⟨v4, R', w', rfl, J, fR, fw, y1, y2, b1, b2, b3, b4, b5, b6, b7⟩
      obtain ⟨y, hy, rfl⟩ := mapi_get hi
      have ym : y ∈ succs ps x := List.mem_of_getElem? hy
      have tk : (succs ps x).take (i + 1) = (succs ps x).take i ++ [y] := by rw [List.take_add_one, hy]; rfl
      refine ⟨_, rfl, _, rfl, D, valV R' (.inl y), rfl, .inl ⟨R', .inl y, .inl fR, rfl, rfl⟩, ?_⟩
      cases hv : valV R' (.inl y) with
      | some v =>
        have hyk : hasK R' y = true := by unfold hasK; rw [hv]; rfl
        refine ⟨_, rfl, ?_⟩
        exact ⟨_, R', w', rfl, J, fR, fw, y1, y2, b1, b2, b3, b4, (by rw [tk]; exact fun z h => (List.mem_append.mp h).elim (b5 z) (fun e => by rw [show z = y by simpa using e]; exact hyk)), b6, b7⟩
      | none =>
        have hyk : ¬ hasK R' y = true := by unfold hasK; rw [hv]; simp
        have up : undone ps (putK R' (.inl y) (.bl true)) + 1 ≤ undone ps R' := undone_put ym hyk
        have lp := length_putK R' (.inl y) (.bl true)
        have ew2 : upd H'' D (.dK (putK R' (.inl y) (.bl true))) wl = some (.lst (w'.map V.int)) := by rw [upd_ne (Ne.symm nDw)]; exact fw
        refine ⟨_, rfl, ?_⟩
        show (if true = true then _ else _)
        rw [if_pos rfl]
        refine ⟨_, rfl, _, rfl, D, _, rfl, .inl ⟨R', .inl y, fR, rfl, by rw [sizeLine_eq]; omega, rfl⟩, ?_⟩
        refine ⟨_, rfl, .inl ⟨rfl, _, SqL.of ew2⟩, _, rfl, wl, _, _, rfl, rfl, ew2, by rw [List.length_map, sizeLine_eq]; omega, ?_⟩
        rw [List.length_append, List.length_singleton] at b6
        refine ⟨_, putK R' (.inl y) (.bl true), w' ++ [y], rfl, fun b o h1 h2 h => by rw [upd_ne h2, upd_ne h1]; exact J b o h1 h2 h, by rw [upd_ne nDw, upd_same], by rw [upd_same, List.map_append]; rfl, by omega, by rw [List.length_append, List.length_singleton]; omega,
          fun z h => (hasK_put.mp h).elim (fun e => by rw [e]; exact .step (b1 x b7) ym) (b1 z), fun z h => hasK_put.mpr (.inr (b2 z h)), fun z h => hasK_put.mpr ((List.mem_append.mp h).elim (fun q => .inr (b3 z q)) (fun q => .inl (by simpa using q))),
          fun z h => (hasK_put.mp h).elim (fun e => .inr (.inl (List.mem_append_right _ (by rw [e]; simp)))) (fun q => (b4 z q).elim .inl fun q => .inr (q.elim (fun q => .inl (List.mem_append_left _ q)) fun q => .inr fun u hu => hasK_put.mpr (.inr (q u hu)))),
          ?_, by rw [List.length_append, List.length_append, List.length_singleton, List.length_singleton]; omega, hasK_put.mpr (.inr b7)⟩
        rw [tk]
        exact fun z h => hasK_put.mpr ((List.mem_append.mp h).elim (fun q => .inr (b5 z q)) (fun e => .inl (by simpa using e)))
    · rintro σ H'' ⟨v4, R', w', rfl, J, fR, fw, y1, y2, b1, b2, b3, b4, b5, b6, b7⟩
      rw [List.length_map, List.take_length] at b5
      exact ⟨_, b6, some (.int x), v4, R', w', rfl, fun b o h1 h2 h => J b o h1 h2 (I5 b o h1 h2 h), fR, fw, y1, y2, b1, b2, b3, fun z h => (b4 z h).elim (fun e => .inr (by rw [e]; exact b5)) id, rfl⟩
end
end Rz

namespace Rz
open PySem PySem.Spec PyProof.Rows L2
theorem LkL.keep {H H' : Hp} (h : Tups H H') : ∀ {ts : List Addr} {ps : List Lk}, LkL H ts ps → LkL H' ts ps
  | _, _, .nil => .nil
  | _, _, .cons e r => .cons (h _ _ e) (LkL.keep h r)
theorem LkL.append {H : Hp} : ∀ {ts us : List Addr} {ps qs : List Lk}, LkL H ts ps → LkL H us qs → LkL H (ts ++ us) (ps ++ qs)
  | _, _, _, _, .nil, s => s
  | _, _, _, _, .cons e t, s => .cons e (LkL.append t s)
def fwd (ms : List Mv) : List Lk := ms.map fun m => (m.1, m.2.2)
def bwd (ms : List Mv) : List Lk := ms.map fun m => (m.2.2, m.1)
/-- the state is on a way from the first state to a last one -/
def useful (ls : List Int) (ms : List Mv) (s : Int) : Prop := Reach (fwd ms) [0] s ∧ Reach (bwd ms) ls s
def sp_check_useful (cU : Addr) : Sp := fun vs H Q E => ∃ (n : Int) (l m : Addr) (ls : List Int) (ms : List Mv), vs = [.int n, .ref l, .ref m] ∧ H l = some (.lst (ls.map V.int)) ∧ MAt H m ms ∧ ls.length ≤ 10000 ∧ ms.length ≤ 10000 ∧ 0 ≤ n ∧ n ≤ 10000 ∧
  ((∀ i : Nat, (i : Int) < n → useful ls ms i) → ∀ H', Same H H' → Q .non H') ∧
  ∀ i : Nat, (i : Int) < n → (∀ j : Nat, j < i → useful ls ms j) → ¬ useful ls ms i → ∀ H' d, Same H H' → H d = none → H' d = some (.xd [("state", .int i)]) → E (.ref cU) (some d) H'
section
variable {w : World} {K : PySem.W.Frag} {mg : Str → Option Value} {base : Heap}
theorem sc_check_useful : FnScope N__check_useful P__check_useful (defScope s__check_useful) := ⟨rfl, rfl, rfl, by decide +kernel, rfl, by decide +kernel, by decide +kernel⟩
theorem ok_check_useful (T : Txt K mg) : FnOk prg w K mg base (L2.CX prg w) 3 T.f__check_useful T.fd__check_useful P__check_useful (sp_check_useful T.c_Useless) := by
  refine T.F__check_useful.okX sc_check_useful (fun vs H Q E h => ?_) (fun cdv A outer s H vs Q E hr h => ?_)
  · obtain ⟨n, l, m, ls, ms, rfl, _⟩ := h
    rfl
  obtain ⟨n, l, m, ls, ms, rfl, hl, ⟨ts, em, hM⟩, zl, zm, n0, n1, kg, kb⟩ := h
  have nd := sc_check_useful.nd
  have tk : Takes (cxOf (L2.CX prg w) prg w K mg base N__check_useful "_check_useful" (defScope s__check_useful) T.f__check_useful cdv A outer s H E) (fun cls d _ H' => E cls d H') := takes_of rfl rfl rfl rfl
  have hu : (A.deeper (envOfC "_check_useful" (defScope s__check_useful) s.heap.objs.size T.f__check_useful cdv)).units + 1 < cLine := by
    have := hr.un
    omega
  refine ⟨_, (pss_cons (ps_set (i := 6) nd rfl (Or.inl rfl) (pe_fn (ok_led_to T) (hr.mono (by decide)) (by rfl) T.m_led_to T.F_led_to.kp T.b_led_to .nil (fun _ => atN _) (pa_cons (pe_lst (pa_cons pe_int pa_nil)) (pa_cons (pe_lc (own := [("state", 3), ("_", 4), ("to", 5)]) (g := gTup K 3 (gCons (gName 3) (gCons (gName 4) (gCons (gName 5) gNil)))) (tt := tYes) rfl nd (pi_list (pv 2)) (blkOk_by (N := N__check_useful) (sc := defScope s__check_useful) (by decide +kernel)) (fun _ _ _ _ _ => (pg_tup rfl (pgs_cons (pg_name (i := 3) nd rfl (Or.inl rfl)) (pgs_cons (pg_name (i := 4) nd rfl (Or.inl rfl)) (pgs_cons (pg_name (i := 5) nd rfl (Or.inl rfl)) pgs_nil))))) (fun _ _ _ _ _ => pts_nil) (fun _ _ _ _ _ => (pe_tup (pa_cons (pv 3) (pa_cons (pv 5) pa_nil))))) pa_nil))))
    (pss_cons (ps_set (i := 7) nd rfl (Or.inl rfl) (pe_fn (ok_led_to T) (hr.mono (by decide)) (by rfl) T.m_led_to T.F_led_to.kp T.b_led_to .nil (fun _ => atN _) (pa_cons (pv 1) (pa_cons (pe_lc (own := [("state", 3), ("_", 4), ("to", 5)]) (g := gTup K 3 (gCons (gName 3) (gCons (gName 4) (gCons (gName 5) gNil)))) (tt := tYes) rfl nd (pi_list (pv 2)) (blkOk_by (N := N__check_useful) (sc := defScope s__check_useful) (by decide +kernel)) (fun _ _ _ _ _ => (pg_tup rfl (pgs_cons (pg_name (i := 3) nd rfl (Or.inl rfl)) (pgs_cons (pg_name (i := 4) nd rfl (Or.inl rfl)) (pgs_cons (pg_name (i := 5) nd rfl (Or.inl rfl)) pgs_nil))))) (fun _ _ _ _ _ => pts_nil) (fun _ _ _ _ _ => (pe_tup (pa_cons (pv 5) (pa_cons (pv 3) pa_nil))))) pa_nil))))
    (pss_one (ps_for (passes_of rfl) rfl (pi_range1 rfl T.n_range (pa_cons (pv 0) pa_nil)) (pg_name (i := 3) nd rfl (Or.inl rfl))
      (pss_one (ps_if (PW.pt (pw_or (pt_cmp (pc_dnotin hu (pv 3) (pv 6)) rfl) (pw_or1 (pt_cmp (pc_dnotin hu (pv 3) (pv 7)) rfl)))) (pss_one (ps_raise rfl tk (pmk_oex T.o_Useless T.i_Useless T.t_Useless (ok_Useless_init T) (hr.mono (by decide)) T.b_Useless_init .nil passN (by rfl) T.m_Useless (pa_cons (pv 3) pa_nil)))) pss_nil)))))), ?_⟩
  refine ⟨by show 1 ≤ sizeLine; decide, fun z hz => ?_⟩
  have S0 := Rz.Same.new (o := .lst [.int 0]) (Same.refl H) hz
  have ez : upd H z (.lst [.int 0]) z = some (.lst [.int 0]) := upd_same
  generalize upd H z (.lst [.int 0]) = H0 at S0 ez ⊢
  refine ⟨_, rfl, m, rfl, ⟨_, SqL.of (S0 _ _ em)⟩, fun D hD => lc_list (K := K) (a := m) (xs := ts.map V.ref) (fun i W => Same H0 W ∧ ∃ us : List Addr, W D = some (.lst (us.map V.ref)) ∧ LkL W us (fwd (ms.take i))) ⟨Rz.Same.new (Same.refl _) hD, [], upd_same, .nil⟩ (fun i W _ h => SqL.of (h.1 _ _ (S0 _ _ em))) ?_ ?_⟩
  · rintro i y W hi ⟨S, us, e, P⟩
    obtain ⟨t, ht, rfl⟩ := refs_get hi
    obtain ⟨q, hq, eq⟩ := hM.get ht
    have hi := (List.getElem?_eq_some_iff.mp hq).1
    have lus := Paired.length P
    have l1 : (fwd (ms.take i)).length ≤ 10000 := by unfold fwd; rw [List.length_map, List.length_take]; omega
    have et := S _ _ (S0 _ _ eq)
    refine ⟨t, _, rfl, SqT.of et, rfl, _, _, rfl, _, _, rfl, _, _, rfl, rfl, rfl, yesT ⟨_, rfl, _, rfl, by show 2 ≤ sizeLine; decide, fun u hu => ?_⟩⟩
    have S2 := Rz.Same.new (o := .tup [.int q.1, .int q.2.2]) (Same.refl W) hu
    have e2 := S2 _ _ e
    refine ⟨_, e2, by rw [List.length_map, sizeLine_eq]; omega, Rz.Same.upd (S.trans S2) hD, us ++ [u], by rw [upd_same, List.map_append]; rfl, ?_⟩
    have nuD : u ≠ D := fun z => by rw [z, e] at hu; cases hu
    have T3 : Tups W (upd (upd W u (.tup [.int q.1, .int q.2.2])) D (.lst (us.map V.ref ++ [.ref u]))) := Tups.upd (Tups.of S2) (not_tupL ⟨_, e2⟩)
    unfold fwd at P ⊢
    rw [List.take_add_one, hq, List.map_append]
    exact (LkL.keep T3 P).append (.cons (by rw [upd_ne nuD, upd_same]) .nil)
  rintro W ⟨S, us, e, P⟩
  rw [List.length_map, hM.len, List.take_length] at P
  have lf : (fwd ms).length = ms.length := by unfold fwd; rw [List.length_map]
  refine ⟨z, D, [0], fwd ms, rfl, S _ _ ez, ⟨us, e, P⟩, by decide, by omega, fun H1 d1 k1 S1 hd1 e1 h1 => ?_⟩
  have S01 := (S0.trans S).trans S1
  refine ⟨_, rfl, _, rfl, m, rfl, ⟨_, SqL.of (S01 _ _ em)⟩, fun D2 hD2 => lc_list (K := K) (a := m) (xs := ts.map V.ref) (fun i W => Same H1 W ∧ ∃ us : List Addr, W D2 = some (.lst (us.map V.ref)) ∧ LkL W us (bwd (ms.take i))) ⟨Rz.Same.new (Same.refl _) hD2, [], upd_same, .nil⟩ (fun i W _ h => SqL.of (h.1 _ _ (S01 _ _ em))) ?_ ?_⟩
  · rintro i y W hi ⟨S, us, e, P⟩
    obtain ⟨t, ht, rfl⟩ := refs_get hi
    obtain ⟨q, hq, eq⟩ := hM.get ht
    have hi := (List.getElem?_eq_some_iff.mp hq).1
    have lus := Paired.length P
    have l1 : (bwd (ms.take i)).length ≤ 10000 := by unfold bwd; rw [List.length_map, List.length_take]; omega
    have et := S _ _ (S01 _ _ eq)
    refine ⟨t, _, rfl, SqT.of et, rfl, _, _, rfl, _, _, rfl, _, _, rfl, rfl, rfl, yesT ⟨_, rfl, _, rfl, by show 2 ≤ sizeLine; decide, fun u hu => ?_⟩⟩
    have S2 := Rz.Same.new (o := .tup [.int q.2.2, .int q.1]) (Same.refl W) hu
    have e2 := S2 _ _ e
    refine ⟨_, e2, by rw [List.length_map, sizeLine_eq]; omega, Rz.Same.upd (S.trans S2) hD2, us ++ [u], by rw [upd_same, List.map_append]; rfl, ?_⟩
    have nuD : u ≠ D2 := fun z => by rw [z, e] at hu; cases hu
    have T3 : Tups W (upd (upd W u (.tup [.int q.2.2, .int q.1])) D2 (.lst (us.map V.ref ++ [.ref u]))) := Tups.upd (Tups.of S2) (not_tupL ⟨_, e2⟩)
    unfold bwd at P ⊢
    rw [List.take_add_one, hq, List.map_append]
    exact (LkL.keep T3 P).append (.cons (by rw [upd_ne nuD, upd_same]) .nil)
  rintro W2 ⟨S2, us2, e2, P2⟩
  rw [List.length_map, hM.len, List.take_length] at P2
  have lb : (bwd ms).length = ms.length := by unfold bwd; rw [List.length_map]
  refine ⟨l, D2, ls, bwd ms, rfl, S2 _ _ (S01 _ _ hl), ⟨us2, e2, P2⟩, zl, by omega, fun H3 d2 k2 S3 hd2 e3 h2 => ?_⟩
  have SA := (S01.trans S2).trans S3
  have ed1 := S3 _ _ (S2 _ _ e1)
  refine ⟨_, rfl, n, rfl, by omega, by omega, for_range (n := n.toNat) (fun i σ H' => ∃ v3 : Option V, σ = [some (.int n), some (.ref l), some (.ref m), v3, none, none, some (.ref d1), some (.ref d2)] ∧ H' = H3 ∧ ∀ j : Nat, j < i → useful ls ms j) ⟨none, rfl, rfl, fun j hj => absurd hj (Nat.not_lt_zero j)⟩ ?_ ?_⟩
  · rintro i σ H5 hi ⟨v3, rfl, rfl, us⟩
    rw [Int.zero_add]
    have hin : (i : Int) < n := by omega
    have bad : ¬ useful ls ms i → _ := fun no => raise_fld (C := T.c_Useless) (fld := "state") (n := i) (H1 := H5) (Q := E) (log_small (k := 64) (by omega) (by decide)) fun H6 d S6 hd e => kb i hin us no H6 d (SA.trans S6) (SA.free hd) e
    cases hv1 : valV k1 (.inl (i : Int)) with
    | none =>
      have no : ¬ useful ls ms i := fun z => by
        have := (h1 i).mpr z.1
        unfold hasK at this
        rw [hv1] at this
        cases this
      exact ⟨_, rfl, _, rfl, d1, none, rfl, .inl ⟨k1, .inl (i : Int), .inl ed1, rfl, hv1.symm⟩, true, rfl, iteT (iteT ⟨_, rfl, by show 1 ≤ 1000; decide, bad no⟩)⟩
    | some x1 =>
      refine ⟨_, rfl, _, rfl, d1, some x1, rfl, .inl ⟨k1, .inl (i : Int), .inl ed1, rfl, hv1.symm⟩, false, rfl, iteF ?_⟩
      cases hv2 : valV k2 (.inl (i : Int)) with
      | none =>
        have no : ¬ useful ls ms i := fun z => by
          have := (h2 i).mpr z.2
          unfold hasK at this
          rw [hv2] at this
          cases this
        exact ⟨_, rfl, _, rfl, d2, none, rfl, .inl ⟨k2, .inl (i : Int), .inl e3, rfl, hv2.symm⟩, true, rfl, iteT ⟨_, rfl, by show 1 ≤ 1000; decide, bad no⟩⟩
      | some x2 =>
        have yes : useful ls ms i := ⟨(h1 i).mp (by unfold hasK; rw [hv1]; rfl), (h2 i).mp (by unfold hasK; rw [hv2]; rfl)⟩
        refine ⟨_, rfl, _, rfl, d2, some x2, rfl, .inl ⟨k2, .inl (i : Int), .inl e3, rfl, hv2.symm⟩, false, rfl, iteF ?_⟩
        refine ⟨_, rfl, rfl, fun j hj => ?_⟩
        by_cases e : j = i
        · rw [e]
          exact yes
        · exact us j (by omega)
  · rintro σ H5 ⟨v3, rfl, rfl, us⟩
    exact kg (fun i hi => us i (by omega)) _ SA
end
end Rz

namespace Rz
open PySem PySem.Spec PyProof.Rows L2
/-! ### lots -/
/-- ascending, each once -/
def SrtI (ns xs : List Int) : Prop := xs.Pairwise (· < ·) ∧ ∀ k, k ∈ xs ↔ k ∈ ns
def SrtM (ms qs : List Mv) : Prop := (qs.map mvK).Pairwise (fun q r => kLt r q = false) ∧ qs.Nodup ∧ ∀ m, m ∈ qs ↔ m ∈ ms
def lotF (n : Int) (l m d : Addr) : List (Str × V) := putF "_leads" (.ref d) (putF "_moves" (.ref m) (putF "_last" (.ref l) (putF "_states" (.int n) [])))
/-- a lot at o: its states, last states, moves, and where the moves lead -/
def LtAt (cL : Addr) (H : Hp) (o : Addr) (n : Int) (ls : List Int) (ms : List Mv) (f : List Key → Option Int) : Prop := ∃ dx l m d kvs, H o = some (.ins cL dx (lotF n l m d)) ∧ H l = some (.lst (ls.map V.int)) ∧ MAt H m ms ∧ H d = some (.dT kvs) ∧ ∀ k, valV kvs k = (f k).map V.int
theorem LtAt.same {cL : Addr} {H H' : Hp} {o : Addr} {n : Int} {ls : List Int} {ms : List Mv} {f : List Key → Option Int} (S : Same H H') (a : LtAt cL H o n ls ms f) : LtAt cL H' o n ls ms f :=
  let ⟨dx, l, m, d, kvs, h1, h2, h3, h4, h5⟩ := a
  ⟨dx, l, m, d, kvs, S _ _ h1, S _ _ h2, h3.same S, S _ _ h4, h5⟩
theorem mv_keys {H : Hp} : ∀ {ts : List Addr} {ms : List Mv}, MvL H ts ms → ∃ ks : List (Addr × List Key), ts.map V.ref = ks.map (fun p => V.ref p.1) ∧ ks.map (·.2) = ms.map mvK ∧ (∀ p ∈ ks, H p.1 = some (.tup (p.2.map kV))) ∧ ks.length = ms.length
  | _, _, .nil => ⟨[], rfl, rfl, fun p hp => (by cases hp), rfl⟩
  | _, _, .cons (a := t) (b := m) e r => by
    obtain ⟨ks, h1, h2, h3, h4⟩ := mv_keys r
    refine ⟨(t, mvK m) :: ks, by rw [List.map_cons, h1]; rfl, by rw [List.map_cons, h2]; rfl, fun p hp => ?_, by rw [List.length_cons, List.length_cons, h4]⟩
    rcases List.mem_cons.mp hp with z | z
    · rw [z]
      exact e
    · exact h3 p z
theorem keys_mv {H : Hp} : ∀ {M : List (Addr × List Key)}, (∀ p ∈ M, H p.1 = some (.tup (p.2.map kV)) ∧ ∃ m : Mv, p.2 = mvK m) → ∃ qs : List Mv, M.map (·.2) = qs.map mvK ∧ MvL H (M.map (·.1)) qs
  | [], _ => ⟨[], rfl, .nil⟩
  | p :: M, h => by
    obtain ⟨e, m, em⟩ := h p List.mem_cons_self
    obtain ⟨qs, h1, h2⟩ := keys_mv (M := M) fun q hq => h q (List.mem_cons_of_mem _ hq)
    refine ⟨m :: qs, by rw [List.map_cons, List.map_cons, h1, em], .cons ?_ h2⟩
    rw [em] at e
    exact e
def sp_Lot_init (cB cU cL : Addr) : Sp := fun vs H Q E => ∃ (p dx l m : Addr) (n : Int) (ls : List Int) (ms : List Mv), vs = [.ref p, .int n, .ref l, .ref m] ∧ H p = some (.ins cL dx []) ∧ H l = some (.lst (ls.map V.int)) ∧ MAt H m ms ∧ ls.length < 64 ∧ ms.length < 64 ∧ (∀ x ∈ ls ++ named ms, x.natAbs < 2 ^ 64) ∧ (∀ x ∈ ms, x.2.1.length ≤ 1000000) ∧
  (okStates n ls ms → okLeads ms → (∀ i : Nat, (i : Int) < n → useful ls ms i) → ∀ H' ls' ms', SrtI ls ls' → SrtM ms ms' → But [p] H H' → LtAt cL H' p n ls' ms' (Lead ms) → Q .non H') ∧
  (¬ okStates n ls ms ∨ ¬ okLeads ms → ∀ H', Same H H' → E (.ref cB) none H') ∧
  (okStates n ls ms → okLeads ms → ∀ i : Nat, (i : Int) < n → (∀ j : Nat, j < i → useful ls ms j) → ¬ useful ls ms i → ∀ H' d, Same H H' → H d = none → H' d = some (.xd [("state", .int i)]) → E (.ref cU) (some d) H')
section
variable {w : World} {K : PySem.W.Frag} {mg : Str → Option Value} {base : Heap}
theorem sc_Lot_init : FnScope N_Lot_init P_Lot_init (defScope s_Lot_init) := ⟨rfl, rfl, rfl, by decide +kernel, rfl, by decide +kernel, by decide +kernel⟩
theorem ok_Lot_init (T : Txt K mg) : FnOk prg w K mg base (L2.CX prg w) 4 T.f_Lot_init T.fd_Lot_init P_Lot_init (sp_Lot_init T.c_BadLot T.c_Useless T.c_Lot) := by
  refine T.F_Lot_init.okX sc_Lot_init (fun vs H Q E h => ?_) (fun cdv A outer s H vs Q E hr h => ?_)
  · obtain ⟨p, dx, l, m, n, ls, ms, rfl, _⟩ := h
    rfl
  obtain ⟨p, dx, l, m, n, ls, ms, rfl, hp, hl, hm, zl, zm, zn, zs, kg, kb, ku⟩ := h
  have nd := sc_Lot_init.nd
  have tk : Takes (cxOf (L2.CX prg w) prg w K mg base N_Lot_init "Lot.__init__" (defScope s_Lot_init) T.f_Lot_init cdv A outer s H E) (fun cls d _ H' => E cls d H') := takes_of rfl rfl rfl rfl
  have hu : (A.deeper (envOfC "Lot.__init__" (defScope s_Lot_init) s.heap.objs.size T.f_Lot_init cdv)).units + 64 < cLine := hr.units
  refine ⟨_, (pss_cons (ps_expr (pe_fn (ok_check_states T) (hr.mono (by decide)) (by rfl) T.m__check_states T.F__check_states.kp T.b__check_states .nil (passAt tk) (pa_cons (pv 1) (pa_cons (pv 2) (pa_cons (pv 3) pa_nil)))))
    (pss_cons (ps_set (i := 4) nd rfl (Or.inl rfl) (pe_fn (ok_leads_of T) (hr.mono (by decide)) (by rfl) T.m__leads_of T.F__leads_of.kp T.b__leads_of .nil (passAt tk) (pa_cons (pv 3) pa_nil)))
    (pss_cons (ps_expr (pe_fn (ok_check_useful T) (hr.mono (by decide)) (by rfl) T.m__check_useful T.F__check_useful.kp T.b__check_useful .nil (passAt tk) (pa_cons (pv 1) (pa_cons (pv 2) (pa_cons (pv 3) pa_nil)))))
    (pss_cons (ps_fld (pv 0) (pv 1) rfl)
    (pss_cons (ps_fld (pv 0) (pe_callB (cr_sortedSet (by rfl)) (by rfl) T.n_sorted (by decide +kernel) (pa_cons (pe_callTy (cr_setIl (by rfl)) (by rfl) T.n_set (by decide +kernel) (pa_cons (pv 2) pa_nil)) pa_nil)) rfl)
    (pss_cons (ps_fld (pv 0) (pe_callB (cr_sortTs (by rfl)) (by rfl) T.n_sorted (by decide +kernel) (pa_cons (pe_callTy (cr_setTs (by rfl) hu) (by rfl) T.n_set (by decide +kernel) (pa_cons (pv 3) pa_nil)) pa_nil)) rfl)
    (pss_one (ps_fld (pv 0) (pv 4) rfl)))))))), ?_⟩
  refine ⟨_, rfl, _, rfl, _, rfl, n, l, m, ls, ms, rfl, hl, hm, by omega, by omega, zn, fun os H1 S1 => ?_, fun os H1 S1 => kb (.inl os) H1 S1⟩
  refine ⟨_, rfl, m, ms, rfl, hm.same S1, by omega, zs, fun ol H2 d kvs S2 hd ed hv => ?_, fun ol H2 S2 => kb (.inr ol) H2 (S1.trans S2)⟩
  have S12 := S1.trans S2
  have n1 := os.1.1
  have n40 := os.1.2
  refine ⟨_, rfl, _, rfl, _, rfl, n, l, m, ls, ms, rfl, S12 _ _ hl, hm.same S12, by omega, by omega, by omega, by omega, fun us H3 S3 => ?_, fun i hi us no H3 x S3 hx e => ku os ol i hi us no H3 x (S12.trans S3) (S12.free hx) e⟩
  have S13 := S12.trans S3
  have hd0 : H d = none := S1.free hd
  have ed3 := S3 _ _ ed
  have npt : ∀ xs, H p ≠ some (.tup xs) := fun xs z => by rw [hp] at z; cases z
  have npl : l ∉ [p] := fun z => by rw [List.mem_singleton.mp z, hp] at hl; cases hl
  have npm : m ∉ [p] := fun z => by
    obtain ⟨ts, e, _⟩ := hm
    rw [List.mem_singleton.mp z, hp] at e
    cases e
  have npd : d ≠ p := fun z => by rw [z, hp] at hd0; cases hd0
  refine ⟨_, rfl, _, rfl, p, _, dx, _, rfl, S13 _ _ hp, T.cl_Lot, T.na_Lot__states, by show 0 < 1000; decide, ?_⟩
  have B4 : But [p] H (upd H3 p (.ins T.c_Lot dx (putF "_states" (.int n) []))) := (But.of S13).upd (.inl (by simp))
  have p4 : upd H3 p (.ins T.c_Lot dx (putF "_states" (.int n) [])) p = some (.ins T.c_Lot dx (putF "_states" (.int n) [])) := upd_same
  have d4 : upd H3 p (.ins T.c_Lot dx (putF "_states" (.int n) [])) d = some (.dT kvs) := by rw [upd_ne npd]; exact ed3
  generalize upd H3 p (.ins T.c_Lot dx (putF "_states" (.int n) [])) = H4 at B4 p4 d4 ⊢
  refine ⟨_, rfl, l, ls, rfl, SqL.of (B4.at hl npl), by unfold scanBound; omega, fun q c hq hc => ?_⟩
  have S5 := Rz.Same.new (o := SetO w q (fun j => decide (j ∈ ls)) c) (Same.refl H4) hq
  refine ⟨q, _, c, rfl, upd_same, by omega, fun xs r xp xm xl hr2 => ?_⟩
  have S6 := Rz.Same.new (o := .lst (xs.map V.int)) (Same.refl (upd H4 q (SetO w q (fun j => decide (j ∈ ls)) c))) hr2
  have S56 := S5.trans S6
  have r6 : upd (upd H4 q (SetO w q (fun j => decide (j ∈ ls)) c)) r (.lst (xs.map V.int)) r = some (.lst (xs.map V.int)) := upd_same
  have srt : SrtI ls xs := ⟨xp, fun k => by rw [xm]; simp⟩
  refine ⟨_, rfl, p, _, dx, _, rfl, S56 _ _ p4, T.cl_Lot, T.na_Lot__last, by show 1 < 1000; decide, ?_⟩
  show tSeq (sFld K (tVar 0) (tCB (rSortTs K prg w) (tCons (tCB (rSetTs K prg w) (tCons (tVar 3) tNil)) tNil)) "_moves") (sFld K (tVar 0) (tVar 4) "_leads") { nx := fun _ H' => Q .non H', rt := Q } [some (.ref p), some (.int n), some (.ref l), some (.ref m), some (.ref d)]
    (upd (upd (upd H4 q (SetO w q (fun j => decide (j ∈ ls)) c)) r (.lst (xs.map V.int))) p (.ins T.c_Lot dx (putF "_last" (.ref r) (putF "_states" (.int n) []))))
  have hr3 : upd H4 q (SetO w q (fun j => decide (j ∈ ls)) c) r = none := hr2
  have nrp : r ≠ p := fun z => by rw [z, S5 _ _ p4] at hr3; cases hr3
  have B7 : But [p] H (upd (upd (upd H4 q (SetO w q (fun j => decide (j ∈ ls)) c)) r (.lst (xs.map V.int))) p (.ins T.c_Lot dx (putF "_last" (.ref r) (putF "_states" (.int n) [])))) := (B4.trans (But.of S56)).upd (.inl (by simp))
  have p7 : upd (upd (upd H4 q (SetO w q (fun j => decide (j ∈ ls)) c)) r (.lst (xs.map V.int))) p (.ins T.c_Lot dx (putF "_last" (.ref r) (putF "_states" (.int n) []))) p = some (.ins T.c_Lot dx (putF "_last" (.ref r) (putF "_states" (.int n) []))) := upd_same
  have d7 : upd (upd (upd H4 q (SetO w q (fun j => decide (j ∈ ls)) c)) r (.lst (xs.map V.int))) p (.ins T.c_Lot dx (putF "_last" (.ref r) (putF "_states" (.int n) []))) d = some (.dT kvs) := by rw [upd_ne npd]; exact S56 _ _ d4
  have r7 : upd (upd (upd H4 q (SetO w q (fun j => decide (j ∈ ls)) c)) r (.lst (xs.map V.int))) p (.ins T.c_Lot dx (putF "_last" (.ref r) (putF "_states" (.int n) []))) r = some (.lst (xs.map V.int)) := by rw [upd_ne nrp]; exact r6
  generalize upd (upd (upd H4 q (SetO w q (fun j => decide (j ∈ ls)) c)) r (.lst (xs.map V.int))) p (.ins T.c_Lot dx (putF "_last" (.ref r) (putF "_states" (.int n) []))) = H7 at B7 p7 d7 r7 ⊢
  have m7 := hm.but B7 npm (tups1 B7 npt)
  obtain ⟨ts, em, hM⟩ := m7
  obtain ⟨ks, k1, k2, k3, k4⟩ := mv_keys hM
  refine ⟨_, rfl, m, ks, rfl, SqL.of (by rw [← k1]; exact em), fun x hx => SqT.of (k3 x hx), by omega, fun a L ha sub all ndL zL => ?_⟩
  have S8 := Rz.Same.new (o := TsO prg w a L) (Same.refl H7) ha
  refine ⟨a, L, fun i => i == 1, rfl, upd_same, fun x hx => SqT.of (S8 _ _ (k3 x (sub x hx))), fun x hx => ?_, fun M b pm pw hb => ?_⟩
  · have inm : x.2 ∈ ms.map mvK := by rw [← k2]; exact List.mem_map.mpr ⟨x, sub x hx, rfl⟩
    obtain ⟨y, _, ey⟩ := List.mem_map.mp inm
    rw [← ey]
    exact mvK_fits y
  have S9 := Rz.Same.new (o := .lst (M.map fun q => V.ref q.1)) (Same.refl (upd H7 a (TsO prg w a L))) hb
  have S89 := S8.trans S9
  have e9 : upd (upd H7 a (TsO prg w a L)) b (.lst (M.map fun q => V.ref q.1)) b = some (.lst (M.map fun q => V.ref q.1)) := upd_same
  obtain ⟨qs, q1, q2⟩ := keys_mv (H := H7) (M := M) fun x hx => by
    have inL := pm.mem_iff.mp hx
    have inm : x.2 ∈ ms.map mvK := by rw [← k2]; exact List.mem_map.mpr ⟨x, sub x inL, rfl⟩
    obtain ⟨y, _, ey⟩ := List.mem_map.mp inm
    exact ⟨k3 x (sub x inL), y, ey.symm⟩
  have sm : SrtM ms qs := by
    refine ⟨?_, ?_, fun y => ?_⟩
    · rw [← q1, List.pairwise_map]
      exact pw
    · have nM : (M.map (·.2)).Nodup := (pm.map (·.2)).nodup_iff.mpr ndL
      rw [q1] at nM
      exact List.Pairwise.of_map mvK (fun _ _ n e => n (congrArg _ e)) nM
    · have h1 : mvK y ∈ M.map (·.2) ↔ mvK y ∈ ks.map (·.2) := by
        rw [(pm.map (·.2)).mem_iff]
        refine ⟨fun h => ?_, fun h => ?_⟩
        · obtain ⟨x, hx, e⟩ := List.mem_map.mp h
          exact List.mem_map.mpr ⟨x, sub x hx, e⟩
        · obtain ⟨x, hx, e⟩ := List.mem_map.mp h
          rw [← e]
          exact all x hx
      rw [q1, k2] at h1
      have h2 : ∀ zs : List Mv, mvK y ∈ zs.map mvK ↔ y ∈ zs := fun zs => ⟨fun h => by
        obtain ⟨x, hx, e⟩ := List.mem_map.mp h
        rw [← mvK_inj e]
        exact hx, fun h => List.mem_map.mpr ⟨y, h, rfl⟩⟩
      rw [h2, h2] at h1
      exact h1
  have hb3 : upd H7 a (TsO prg w a L) b = none := hb
  have nbp : b ≠ p := fun z => by rw [z, S8 _ _ p7] at hb3; cases hb3
  refine ⟨_, rfl, p, _, dx, _, rfl, S89 _ _ p7, T.cl_Lot, T.na_Lot__moves, by show 2 < 1000; decide, ?_⟩
  show sFld K (tVar 0) (tVar 4) "_leads" { nx := fun _ H' => Q .non H', rt := Q } [some (.ref p), some (.int n), some (.ref l), some (.ref m), some (.ref d)]
    (upd (upd (upd H7 a (TsO prg w a L)) b (.lst (M.map fun q => V.ref q.1))) p (.ins T.c_Lot dx (putF "_moves" (.ref b) (putF "_last" (.ref r) (putF "_states" (.int n) [])))))
  refine ⟨_, rfl, _, rfl, p, _, dx, _, rfl, upd_same, T.cl_Lot, T.na_Lot__leads, by show 3 < 1000; decide, ?_⟩
  have BX : But [p] (upd (upd H7 a (TsO prg w a L)) b (.lst (M.map fun q => V.ref q.1))) (upd (upd (upd (upd H7 a (TsO prg w a L)) b (.lst (M.map fun q => V.ref q.1))) p (.ins T.c_Lot dx (putF "_moves" (.ref b) (putF "_last" (.ref r) (putF "_states" (.int n) []))))) p (.ins T.c_Lot dx (lotF n r b d))) := ((But.refl _ _).upd (.inl (by simp))).upd (.inl (by simp))
  have BY := (B7.trans (But.of S89)).trans BX
  refine kg os ol us _ xs qs srt sm BY ⟨dx, r, b, d, kvs, upd_same, BX.at (S89 _ _ r7) (by simpa using nrp), ⟨M.map (fun x => x.1), ?_, ?_⟩, BX.at (S89 _ _ d7) (by simpa using npd), hv⟩
  · rw [List.map_map]
    exact BX.at e9 (by simpa using nbp)
  · refine q2.keep ((Tups.of S89).trans (tups1 BX fun xs z => ?_))
    rw [S89 _ _ p7] at z
    cases z
end
end Rz

namespace Rz
open PySem PySem.Spec PyProof.Rows L2
/-- what Lot(n, l, m) asks -/
theorem lot_made {cB cU cL : Addr} {H : Hp} {Q : VK} {E : XK} {n : Int} {l m : Addr} {ls : List Int} {ms : List Mv} (hl : H l = some (.lst (ls.map V.int))) (hm : MAt H m ms) (zl : ls.length < 64) (zm : ms.length < 64) (zn : ∀ x ∈ ls ++ named ms, x.natAbs < 2 ^ 64) (zs : ∀ x ∈ ms, x.2.1.length ≤ 1000000)
    (kg : okStates n ls ms → okLeads ms → (∀ i : Nat, (i : Int) < n → useful ls ms i) → ∀ H' o ls' ms', SrtI ls ls' → SrtM ms ms' → Same H H' → H o = none → LtAt cL H' o n ls' ms' (Lead ms) → Q (.ref o) H')
    (kb : ¬ okStates n ls ms ∨ ¬ okLeads ms → ∀ H', Same H H' → E (.ref cB) none H')
    (ku : okStates n ls ms → okLeads ms → ∀ i : Nat, (i : Int) < n → (∀ j : Nat, j < i → useful ls ms j) → ¬ useful ls ms i → ∀ H' d, Same H H' → H d = none → H' d = some (.xd [("state", .int i)]) → E (.ref cU) (some d) H') :
    MkS cL (sp_Lot_init cB cU cL) E [.int n, .ref l, .ref m] H Q := by
  rw [mkS_eq]
  intro x dx hx hdx ndx
  have S0 : Same H (upd (upd H dx (.own x)) x (.ins cL dx [])) := fun b o e => by
    rw [upd_ne (ne_of_none e hx), upd_ne (ne_of_none e hdx)]
    exact e
  refine ⟨x, dx, l, m, n, ls, ms, rfl, upd_same, S0 _ _ hl, hm.same S0, zl, zm, zn, zs, fun o1 o2 u H' ls' ms' s1 s2 B L => ⟨rfl, ?_⟩, fun o H' S => kb o H' (S0.trans S), fun o1 o2 i hi us no H' d S hd e => ku o1 o2 i hi us no H' d (S0.trans S) (S0.free hd) e⟩
  refine kg o1 o2 u H' x ls' ms' s1 s2 (fun b o e => ?_) hx L
  exact B b o (by have := ne_of_none e hx; simpa using this) (S0 b o e)
end Rz

namespace Rz
open PySem PySem.Spec PyProof.Rows L2
/-- the moves of the lot of all texts over these signs -/
def everyM (cs : List Nat) : List Mv := cs.map fun c => (0, ⟨#[c]⟩, 0)
theorem every_states (cs : List Nat) : okStates 1 [0] (everyM cs) := by
  refine ⟨⟨by decide, by decide⟩, fun x hx => ?_, fun m hm => ?_⟩
  · rw [List.mem_singleton.mp hx]
    decide
  · obtain ⟨c, _, rfl⟩ := List.mem_map.mp hm
    exact ⟨⟨by show (0 : Int) ≤ 0; decide, by show (0 : Int) < 1; decide⟩, by show (0 : Int) ≤ 0; decide, by show (0 : Int) < 1; decide⟩
theorem sg_one {c : Nat} (h : oddC c = false) : isSg ⟨#[c]⟩ = true := by
  show (!oddC c) = true
  rw [h]
  rfl
theorem every_leads {cs : List Nat} (h : ∀ c ∈ cs, oddC c = false) : okLeads (everyM cs) := by
  refine ⟨fun m hm => ?_, fun a ha b hb _ => ?_⟩
  · obtain ⟨c, hc, rfl⟩ := List.mem_map.mp hm
    exact sg_one (h c hc)
  · obtain ⟨c, _, rfl⟩ := List.mem_map.mp ha
    obtain ⟨d, _, rfl⟩ := List.mem_map.mp hb
    rfl
theorem every_useful (cs : List Nat) (i : Nat) (hi : (i : Int) < 1) : useful [0] (everyM cs) i := by
  obtain rfl : i = 0 := by omega
  exact ⟨.start (by simp), .start (by simp)⟩
end Rz

namespace Rz
open PySem PySem.Spec PyProof.Rows L2
def sp_Lot_moves (cL : Addr) : Sp := fun vs H Q _ => ∃ (o : Addr) (n : Int) (ls : List Int) (ms : List Mv) (f : List Key → Option Int), vs = [.ref o] ∧ LtAt cL H o n ls ms f ∧ ∀ H' l, Same H H' → H l = none → MAt H' l ms → Q (.ref l) H'
section
variable {w : World} {K : PySem.W.Frag} {mg : Str → Option Value} {base : Heap}
theorem sc_Lot_moves : FnScope N_Lot_moves P_Lot_moves (defScope s_Lot_moves) := ⟨rfl, rfl, rfl, by decide +kernel, rfl, by decide +kernel, by decide +kernel⟩
theorem ok_Lot_moves (T : Txt K mg) : FnOk prg w K mg base (L2.CX prg w) 1 T.f_Lot_moves T.fd_Lot_moves P_Lot_moves (sp_Lot_moves T.c_Lot) := by
  refine Rz.Fun.okN T.F_Lot_moves sc_Lot_moves (fun vs H Q E h => ?_) (fun cdv A outer s H vs Q E hr h => ?_)
  · obtain ⟨o, n, ls, ms, f, rfl, _⟩ := h
    rfl
  obtain ⟨o, n, ls, ms, f, rfl, ⟨dx, l, m, d, kvs, ho, _, ⟨ts, hm, P⟩, _⟩, k⟩ := h
  have nd := sc_Lot_moves.nd
  refine ⟨_, (pss_one (ps_ret (pe_callTy call_listS (by rfl) T.n_list (by decide +kernel) (pa_cons (pe_fld (pv 0) rfl) pa_nil)))), ?_⟩
  unfold rListS
  exact ⟨_, rfl, o, _, dx, _, _, rfl, ho, T.cl_Lot, T.na_Lot__moves, rfl, m, _, rfl, SqL.of hm, fun q hq => k _ q (Rz.Same.new (Same.refl H) hq) hq ⟨ts, upd_same, P.keep (Tups.of (Rz.Same.new (Same.refl H) hq))⟩⟩
end
end Rz

namespace Rz
open PySem PySem.Spec PyProof.Rows L2
def sp_law_pool (K : PySem.W.Frag) : Sp := fun vs H Q _ => ∃ (a : Addr) (ns : List Int), vs = [.ref a] ∧ SqL K H a (ns.map V.int) ∧ ns.length ≤ 63 ∧ ∀ H' d, Same H H' → H d = none → Dr H' d → Q (.ref d) H'
section
variable {w : World} {K : PySem.W.Frag} {mg : Str → Option Value} {base : Heap}
theorem sc_law_pool : FnScope N__law_pool P__law_pool (defScope s__law_pool) := ⟨rfl, rfl, rfl, by decide +kernel, rfl, by decide +kernel, by decide +kernel⟩
theorem ok_law_pool (T : Txt K mg) : FnOk prg w K mg base (L2.CX prg w) 1 T.f__law_pool T.fd__law_pool P__law_pool (sp_law_pool K) := by
  refine Rz.Fun.okN T.F__law_pool sc_law_pool (fun vs H Q E h => ?_) (fun cdv A outer s H vs Q E hr h => ?_)
  · obtain ⟨a, ns, rfl, _⟩ := h
    rfl
  obtain ⟨a, ns, rfl, hS, hlen, k⟩ := h
  have nd := sc_law_pool.nd
  refine ⟨_, pss_cons (ps_set (i := 1) nd rfl (Or.inl rfl) (pe_lst pa_nil)) (pss_cons (ps_set (i := 2) nd rfl (Or.inl rfl) pe_int)
    (pss_cons (ps_for PassesOwn.never rfl (pi_list (pv 0)) (pg_name (i := 3) nd rfl (Or.inl rfl))
      (pss_cons (ps_set (i := 4) nd rfl (Or.inl rfl) (pe_callB call_abs (by rfl) T.n_abs (by decide +kernel) (pa_cons (pv 3) pa_nil)))
      (pss_cons (ps_set (i := 2) nd rfl (Or.inl rfl) (pe_op op_mod (pe_callTy call_int1 (by rfl) T.n_int (by decide +kernel) (pa_cons (pe_op op_add (pe_op op_mul (pv 2) pe_int) (pv 4)) pa_nil)) pe_int))
      (pss_one (ps_if (pt_cmpR op_lt (pv 4) (pe_op op_pow pe_int pe_int) (nomark _))
        (pss_one (ps_expr (pe_bm PySem.F.plainAttrs_list PySem.F.slot_list_append PySem.F.type_list_append mt_append (pv 1) (pa_cons (pv 4) pa_nil))))
        (pss_one (ps_for PassesOwn.never rfl (pi_range1 rfl T.n_range (pa_cons pe_int pa_nil)) (pg_name (i := 5) nd rfl (Or.inl rfl))
          (pss_one (ps_if (pt_cmpR op_gt (pv 4) pe_int (nomark _))
            (pss_cons (ps_expr (pe_bm PySem.F.plainAttrs_list PySem.F.slot_list_append PySem.F.type_list_append mt_append (pv 1) (pa_cons (pe_op op_mod (pe_callTy call_int1 (by rfl) T.n_int (by decide +kernel) (pa_cons (pv 4) pa_nil)) pe_int) pa_nil)))
              (pss_one (ps_set (i := 4) nd rfl (Or.inl rfl) (pe_op op_fdiv (pv 4) pe_int))))
            pss_nil)))))))))
    (pss_cons (ps_for PassesOwn.never rfl (pi_range1 rfl T.n_range (pa_cons pe_int pa_nil)) (pg_name (i := 5) nd rfl (Or.inl rfl))
      (pss_cons (ps_set (i := 6) nd rfl (Or.inl rfl) (pe_op op_mod (pe_callTy call_int1 (by rfl) T.n_int (by decide +kernel) (pa_cons (pe_op op_mul (pe_op op_add (pv 2) pe_int) (pe_op op_add (pe_op op_fdiv (pe_op op_add (pe_op op_mul (pe_op op_mul pe_int (pv 5)) (pv 5)) (pe_op op_mul pe_int (pv 5))) pe_int) pe_int)) pa_nil)) pe_int))
        (pss_one (ps_expr (pe_bm PySem.F.plainAttrs_list PySem.F.slot_list_append PySem.F.type_list_append mt_append (pv 1) (pa_cons (pe_op op_mod (pe_callTy call_int1 (by rfl) T.n_int (by decide +kernel) (pa_cons (pe_op op_add (pe_op op_mul (pv 6) (pv 6)) (pv 5)) pa_nil)) pe_int) pa_nil))))))
    (pss_one (ps_ret (pv 1)))))), ?_⟩
  refine ⟨Nat.zero_le _, fun d hd => ?_⟩
  have S0 : Same H (upd H d (.lst [])) := Rz.Same.new (Same.refl H) hd
  refine ⟨_, rfl, a, rfl, ⟨_, S0.seq hS⟩, for_list (K := K) (a := a) (xs := ns.map V.int) (fun i σ H' => ∃ (ks : List Int) (sd : Int) (v3 v4 v5 v6 : Option V), σ = [some (.ref a), some (.ref d), some (.int sd), v3, v4, v5, v6] ∧ Same H H' ∧ H' d = some (.lst (ks.map V.int)) ∧ ks.length ≤ i * 60 ∧ 0 ≤ sd ∧ sd < 1009)
    ⟨[], 0, none, none, none, none, rfl, S0, upd_same, Nat.le_refl _, by omega, by omega⟩ (fun i σ H' _ ⟨_, _, _, _, _, _, _, R, _⟩ => R.seq hS) ?_ ?_⟩
  · rintro i y σ H' hi ⟨ks, sd, v3, v4, v5, v6, rfl, R, hK, hl, h0, h1⟩
    obtain ⟨u, hu, rfl⟩ := mapi_get hi
    have hi63 : i < ns.length := (List.getElem?_eq_some_iff.mp hu).1
    refine ⟨_, rfl, u, rfl, ?_⟩
    refine ⟨_, rfl, _, _, rfl, rfl, .inl ⟨by omega, by omega⟩, _, rfl, _, _, rfl, rfl, .inl ⟨_, rfl, _, _, rfl, rfl, (by show (0 : Int) < 1009; decide), ?_⟩⟩
    refine ⟨_, rfl, _, _, rfl, rfl, ⟨by decide, by decide, by decide⟩, _, _, rfl, rfl, _, rfl, ?_⟩
    generalize (if u < 0 then -u else u) = r
    have b0 : 0 ≤ (sd * 31 + r) % 1009 := by omega
    have b1 : (sd * 31 + r) % 1009 < 1009 := by omega
    refine ite2 (fun _ => ?_) (fun _ => ?_)
    · refine ⟨_, rfl, .inl ⟨rfl, _, SqL.of hK⟩, _, rfl, d, _, _, rfl, rfl, hK, (by rw [List.length_map, sizeLine_eq]; omega), ?_⟩
      exact ⟨ks ++ [r], (sd * 31 + r) % 1009, _, _, _, _, rfl, Rz.Same.upd R hd, by rw [upd_same, List.map_append]; rfl, by rw [List.length_append, List.length_singleton]; omega, b0, b1⟩
    · refine ⟨60, rfl, by decide, by decide, for_range (n := 60) (fun j σ H2 => ∃ (ks2 : List Int) (r2 : Int) (v5 : Option V), σ = [some (.ref a), some (.ref d), some (.int ((sd * 31 + r) % 1009)), some (.int u), some (.int r2), v5, v6] ∧ Same H H2 ∧ H2 d = some (.lst (ks2.map V.int)) ∧ ks2.length ≤ i * 60 + j)
        ⟨ks, r, _, rfl, R, hK, by omega⟩ ?_ ?_⟩
      · rintro j σ2 H2 hj ⟨ks2, r2, v7, rfl, R2, hK2, hl2⟩
        refine ⟨_, rfl, _, _, rfl, rfl, _, rfl, ?_⟩
        refine ite2 (fun _ => ?_) (fun _ => ?_)
        · refine ⟨_, rfl, .inl ⟨rfl, _, SqL.of hK2⟩, _, rfl, .inl ⟨_, rfl, _, _, rfl, rfl, (by show (0 : Int) < 1000; decide), d, _, _, rfl, rfl, hK2, (by rw [List.length_map, sizeLine_eq]; omega), ?_⟩⟩
          refine ⟨_, rfl, _, _, rfl, rfl, ⟨by decide, by decide⟩, ?_⟩
          exact ⟨ks2 ++ [r2 % 1000], _, _, rfl, Rz.Same.upd R2 hd, by rw [upd_same, List.map_append]; rfl, by rw [List.length_append, List.length_singleton]; omega⟩
        · exact ⟨ks2, r2, _, rfl, R2, hK2, by omega⟩
      · rintro σ2 H2 ⟨ks2, r2, v7, rfl, R2, hK2, hl2⟩
        exact ⟨ks2, (sd * 31 + r) % 1009, _, _, _, _, rfl, R2, hK2, by omega, b0, b1⟩
  · rintro σ H' ⟨ks, sd, v3, v4, v5, v6, rfl, R, hK, hl, h0, h1⟩
    rw [List.length_map] at hl
    refine ⟨90, rfl, by decide, by decide, for_range (n := 90) (fun j σ H2 => ∃ (ks2 : List Int) (v5 v6 : Option V), σ = [some (.ref a), some (.ref d), some (.int sd), v3, v4, v5, v6] ∧ Same H H2 ∧ H2 d = some (.lst (ks2.map V.int)) ∧ ks2.length ≤ 3780 + j)
      ⟨ks, _, _, rfl, R, hK, by omega⟩ ?_ ?_⟩
    · rintro j σ2 H2 hj ⟨ks2, v7, v8, rfl, R2, hK2, hl2⟩
      refine ⟨_, rfl, _, _, rfl, rfl, _, rfl, _, _, rfl, rfl, .inl ⟨by decide, by decide⟩, _, rfl, _, _, rfl, rfl, .inl ⟨by omega, by omega⟩, _, rfl, _, _, rfl, rfl, .inl ⟨by decide, by decide⟩, _, _, rfl, rfl,
        _, _, rfl, rfl, ⟨by decide, by decide⟩, _, _, rfl, rfl, _, _, rfl, rfl, .inl ⟨by omega, by omega⟩, .inl ⟨_, rfl, _, _, rfl, rfl, (by show (0 : Int) < 1009; decide), ?_⟩⟩
      have m0 : ∀ z : Int, -(2 ^ 64) < z % 1009 ∧ z % 1009 < 2 ^ 64 := fun z => by omega
      refine ⟨_, rfl, .inl ⟨rfl, _, SqL.of hK2⟩, _, rfl, _, rfl, _, _, rfl, rfl, .inl (m0 _), _, rfl, _, _, rfl, rfl, .inl ⟨_, rfl, _, _, rfl, rfl, (by show (0 : Int) < 1013; decide), d, _, _, rfl, rfl, hK2, (by rw [List.length_map, sizeLine_eq]; omega), ?_⟩⟩
      exact ⟨ks2 ++ [_], _, _, rfl, Rz.Same.upd R2 hd, by rw [upd_same, List.map_append]; rfl, by rw [List.length_append, List.length_singleton]; omega⟩
    · rintro σ2 H2 ⟨ks2, v7, v8, rfl, R2, hK2, hl2⟩
      exact ⟨_, rfl, k H2 d R2 hd ⟨ks2, hK2, by omega⟩⟩
end
end Rz

namespace Rz
open PySem PySem.Spec PyProof.Rows L2
def sp_law_pick : Sp := fun vs H Q _ => ∃ (d : Addr) (m : Int), vs = [.ref d, .int m] ∧ 0 < m ∧ Dr H d ∧ ∀ H' r, 0 ≤ r → r < m → Dr H' d → But [d] H H' → Q (.int r) H'
section
variable {w : World} {K : PySem.W.Frag} {mg : Str → Option Value} {base : Heap}
theorem sc_law_pick : FnScope N__law_pick P__law_pick (defScope s__law_pick) := ⟨rfl, rfl, rfl, by decide +kernel, rfl, by decide +kernel, by decide +kernel⟩
theorem ok_law_pick (T : Txt K mg) : FnOk prg w K mg base (L2.CX prg w) 1 T.f__law_pick T.fd__law_pick P__law_pick sp_law_pick := by
  refine Rz.Fun.okN T.F__law_pick sc_law_pick (fun vs H Q E h => ?_) (fun cdv A outer s H vs Q E hr h => ?_)
  · obtain ⟨d, m, rfl, _⟩ := h
    rfl
  obtain ⟨d, m, rfl, hm, ⟨ns, hd, hl⟩, k⟩ := h
  have nd := sc_law_pick.nd
  refine ⟨_, (pss_cons (ps_if (pt_cmpR (op_eqD hr.units) (pv 0) (pe_lst pa_nil) (nomark _)) (pss_one (ps_ret pe_int)) pss_nil)
    (pss_one (ps_ret (pe_op op_mod (pe_callTy call_int1 (by rfl) T.n_int (by decide +kernel) (pa_cons (pe_bm PySem.F.plainAttrs_list PySem.F.slot_list_pop PySem.F.type_list_pop mt_popAt (pv 0) (pa_cons pe_int pa_nil)) pa_nil)) (pv 1))))), ?_⟩
  refine ⟨_, rfl, Nat.zero_le _, fun p hp => ?_⟩
  have np : d ≠ p := ne_of_none hd hp
  have hd2 : upd H p (.lst []) d = some (.lst (ns.map V.int)) := by rw [upd_ne np]; exact hd
  refine ⟨dInts ns, dInts [], dp_ints (SqL.of hd2), dp_ints (SqL.of upd_same), ints_shaped _, ints_shaped _, _, rfl, ?_⟩
  rw [ints_eqv]
  refine ite2 (fun e => ?_) (fun e => ?_)
  · exact k _ 0 (Int.le_refl _) hm ⟨ns, hd2, hl⟩ ((But.refl [d] H).upd (.inr hp))
  · have e2 : ns ≠ [] := fun z => e (decide_eq_true z)
    obtain ⟨x, r, rfl⟩ := List.exists_cons_of_ne_nil e2
    refine ⟨_, rfl, .inl ⟨rfl, _, SqL.of hd2⟩, d, _, 0, 0, .int x, rfl, rfl, hd2, by decide, by decide, (by simp [seqIndex?]), rfl, .inl ⟨x, rfl, ?_⟩⟩
    refine ⟨_, rfl, x, m, rfl, rfl, hm, ?_⟩
    refine k _ _ (Int.emod_nonneg _ (by omega)) (Int.emod_lt_of_pos _ hm) ⟨r, by rw [upd_same]; rfl, by simp at hl; omega⟩ (((But.refl [d] H).upd (.inr hp)).upd (.inl (by simp)))
end
end Rz

namespace Rz
open PySem PySem.Spec PyProof.Rows L2
/-- some of the letters, each once -/
def sp_law_alphabet : Sp := fun vs H Q _ => ∃ (d : Addr) (n : Int), vs = [.ref d, .int n] ∧ 0 ≤ n ∧ n ≤ 20 ∧ Dr H d ∧ ∀ H' (z : Str), (z.length : Int) = n → Over abc z → z.cps.toList.Nodup → Dr H' d → But [d] H H' → Q (.str z) H'
section
variable {w : World} {K : PySem.W.Frag} {mg : Str → Option Value} {base : Heap}
theorem sc_law_alphabet : FnScope N__law_alphabet P__law_alphabet (defScope s__law_alphabet) := ⟨rfl, rfl, rfl, by decide +kernel, rfl, by decide +kernel, by decide +kernel⟩
theorem abc_nodup : abc.cps.toList.Nodup := by decide +kernel
theorem ok_law_alphabet (T : Txt K mg) : FnOk prg w K mg base (L2.CX prg w) 2 T.f__law_alphabet T.fd__law_alphabet P__law_alphabet sp_law_alphabet := by
  refine Rz.Fun.okN T.F__law_alphabet sc_law_alphabet (fun vs H Q E h => ?_) (fun cdv A outer s H vs Q E hr h => ?_)
  · obtain ⟨d, n, rfl, _⟩ := h
    rfl
  obtain ⟨d, n, rfl, n0, n1, hD, k⟩ := h
  have nd := sc_law_alphabet.nd
  refine ⟨_, (pss_cons (ps_set (i := 2) nd rfl (Or.inl rfl) pe_str)
    (pss_cons (ps_set (i := 3) nd rfl (Or.inr rfl) pe_str)
    (pss_cons (ps_for PassesOwn.never rfl (pi_range1 rfl T.n_range (pa_cons (pv 1) pa_nil)) (pg_name (i := 4) nd rfl (Or.inl rfl))
      (pss_cons (ps_setLc (i := 6) (own := [("_law_letter", 5)]) (g := (gName 5)) (tt := _) rfl nd rfl rfl (sw_true rfl rfl rfl (by decide +kernel)) (pi_str (pv 2)) (blkOk_by (N := N__law_alphabet) (sc := defScope s__law_alphabet) (by decide +kernel)) (fun _ _ _ _ _ => (pg_name (i := 5) nd rfl (Or.inl rfl))) (fun _ _ _ _ _ => (pts_one (pt_cmpR op_notIn_sign (pv 5) (pv 3) rfl))) (fun _ _ _ _ _ => (pv 5)))
      (pss_one (ps_set (i := 3) nd rfl (Or.inr rfl) (pe_op op_add_str (pv 3) (pe_ix ix_list (pv 6) (pe_fn (ok_law_pick T) (hr.mono (by decide)) (by rfl) T.m__law_pick T.F__law_pick.kp T.b__law_pick .nil (fun _ => atN _) (pa_cons (pv 0) (pa_cons (pe_callB call_len_seq (by rfl) T.n_len PySem.boot_len (pa_cons (pv 6) pa_nil)) pa_nil))) (fun _ _ => rfl)))))))
    (pss_one (ps_ret (pv 3)))))), ?_⟩
  refine ⟨_, rfl, n, rfl, by omega, by omega, for_range (n := n.toNat) (fun i σ H' => ∃ (v4 v5 v6 : Option V) (z : Str), σ = [some (.ref d), some (.int n), some (.str abc), some (.str z), v4, v5, v6] ∧ z.length = i ∧ Over abc z ∧ z.cps.toList.Nodup ∧ Dr H' d ∧ But [d] H H') ?_ ?_ ?_⟩
  · exact ⟨none, none, none, "", rfl, rfl, (fun c hc => by cases hc), List.Pairwise.nil, hD, But.refl _ _⟩
  · rintro i σ H1 hi ⟨v4, v5, v6, z, rfl, hz, ho, hn, D1, B1⟩
    refine ⟨_, rfl, abc, rfl, fun D hDn => lc_it walk_str (fun i H2 => ∃ ys : List Nat, H2 D = some (.lst (ys.map fun c => V.str ⟨#[c]⟩)) ∧ ys = (abc.cps.toList.take i).filter (fun c => !decide (c ∈ z.cps.toList)) ∧ Same H1 H2) ?_ (fun _ _ _ _ => True.intro) ?_ ?_⟩
    · exact ⟨[], upd_same, rfl, Rz.Same.new (Same.refl _) hDn⟩
    · rintro j x H2 H3 hj ⟨ys, e, ey, S⟩ ⟨rfl, c, hc, rfl⟩
      have hc' : abc.cps.toList[j]? = some c := by
        rw [← hc]
        exact Array.getElem?_toList ..
      have et : abc.cps.toList.take (j + 1) = abc.cps.toList.take j ++ [c] := by rw [List.take_add_one, hc']; rfl
      have lys : ys.length ≤ 26 := by
        rw [ey]
        refine Nat.le_trans (List.length_filter_le ..) ?_
        rw [List.length_take]
        exact Nat.le_trans (Nat.min_le_right ..) (by decide +kernel)
      refine ⟨rfl, _, rfl, _, rfl, c, z, rfl, rfl, _, rfl, ?_⟩
      refine ite2 (fun hb => ?_) (fun hb => ?_)
      · refine ⟨_, rfl, _, e, by rw [List.length_map, sizeLine_eq]; omega, ys ++ [c], by rw [upd_same, List.map_append]; rfl, ?_, Rz.Same.upd S hDn⟩
        rw [et, List.filter_append, ey]
        simp only [List.filter_cons, List.filter_nil]
        rw [if_pos hb]
      · refine ⟨ys, e, ?_, S⟩
        rw [et, List.filter_append, ey]
        simp only [List.filter_cons, List.filter_nil]
        rw [if_neg hb, List.append_nil]
    · rintro H2 ⟨ys, e, ey, S⟩
      have eall : abc.cps.toList.take abc.cps.size = abc.cps.toList := List.take_of_length_le (Nat.le_refl _)
      rw [eall] at ey
      have pos : 0 < ys.length := by
        refine Nat.pos_of_ne_zero fun h0 => ?_
        have h1 : ys = [] := List.length_eq_zero_iff.mp h0
        have h2 := nodup_le abc_nodup (z := z.cps.toList) fun x hx => Classical.byContradiction fun hn => by
          have h3 : x ∈ ys := by
            rw [ey]
            exact List.mem_filter.mpr ⟨hx, by simp [hn]⟩
          rw [h1] at h3
          cases h3
        have h4 : abc.cps.toList.length = 26 := by decide +kernel
        rw [h4, len_list] at h2
        omega
      have nDd : D ≠ d := Ne.symm (apartNew D1.some hDn)
      refine ⟨_, rfl, _, rfl, _, rfl, _, rfl, D, _, rfl, .inl (SqL.of e), d, _, rfl, by rw [List.length_map]; omega, D1.same S, fun H3 r r0 r1 D3 B3 => ?_⟩
      have e3 := B3.at e (nin1 nDd)
      obtain ⟨v, hv, hat⟩ := atI_in r0 r1
      obtain ⟨c, hc, rfl⟩ := List.mem_map.mp hv
      refine ⟨D, _, r, _, rfl, rfl, SqL.of e3, hat, z, ⟨#[c]⟩, rfl, rfl, by show z.length + 1 ≤ _; rw [sizeLine_eq]; omega, ?_⟩
      refine ⟨_, _, _, z ++ ⟨#[c]⟩, rfl, by rw [Str.length_append]; show z.length + 1 = _; omega, fun x hx => ?_, ?_, D3, fun b o hb he => B3 b o hb ((S _ _ (B1 b o hb he)))⟩
      · have hx2 : x ∈ z.cps.toList ++ [c] := by
          have e5 : (z ++ ⟨#[c]⟩ : Str).cps.toList = z.cps.toList ++ [c] := by
            show (z.cps ++ #[c]).toList = _
            rw [Array.toList_append]
          rw [← e5]
          exact hx
        rcases List.mem_append.mp hx2 with h | h
        · exact ho x h
        · have e6 : x = c := by simpa using h
          rw [e6]
          rw [ey] at hc
          exact (List.mem_filter.mp hc).1
      · have e5 : (z ++ ⟨#[c]⟩ : Str).cps.toList = z.cps.toList ++ [c] := by
          show (z.cps ++ #[c]).toList = _
          rw [Array.toList_append]
        rw [e5]
        rw [ey] at hc
        have nc : c ∉ z.cps.toList := by simpa using (List.mem_filter.mp hc).2
        exact List.nodup_append.mpr ⟨hn, by simp, fun a ha b hb e => nc (by rw [← List.mem_singleton.mp hb, ← e]; exact ha)⟩
  · rintro σ H1 ⟨v4, v5, v6, z, rfl, hz, ho, hn, D1, B1⟩
    exact ⟨_, rfl, k H1 z (by omega) ho hn D1 B1⟩
end
end Rz

namespace Rz
open PySem PySem.Spec PyProof.Rows L2
/-- some word over the signs of z, not longer than g -/
def sp_law_word_of : Sp := fun vs H Q _ => ∃ (d : Addr) (z : Str) (l g : Int), vs = [.ref d, .str z, .int l, .int g] ∧ 0 ≤ l ∧ l ≤ g ∧ g ≤ 1000 ∧ 0 < z.length ∧ z.length ≤ 1000 ∧ Dr H d ∧
  ∀ H' (x : Str), (l : Int) ≤ x.length → (x.length : Int) ≤ g → Over z x → Dr H' d → But [d] H H' → Q (.str x) H'
section
variable {w : World} {K : PySem.W.Frag} {mg : Str → Option Value} {base : Heap}
theorem sc_law_word_of : FnScope N__law_word_of P__law_word_of (defScope s__law_word_of) := ⟨rfl, rfl, rfl, by decide +kernel, rfl, by decide +kernel, by decide +kernel⟩
theorem ok_law_word_of (T : Txt K mg) : FnOk prg w K mg base (L2.CX prg w) 2 T.f__law_word_of T.fd__law_word_of P__law_word_of sp_law_word_of := by
  refine Rz.Fun.okN T.F__law_word_of sc_law_word_of (fun vs H Q E h => ?_) (fun cdv A outer s H vs Q E hr h => ?_)
  · obtain ⟨d, z, l, g, rfl, _⟩ := h
    rfl
  obtain ⟨d, z, l, g, rfl, hl0, hlg, hg, hz0, hz, hD, k⟩ := h
  have nd := sc_law_word_of.nd
  refine ⟨_, (pss_cons (ps_set (i := 4) nd rfl (Or.inl rfl) (pe_op op_add (pv 2) (pe_fn (ok_law_pick T) (hr.mono (by decide)) (by rfl) T.m__law_pick T.F__law_pick.kp T.b__law_pick .nil (fun _ => atN _) (pa_cons (pv 0) (pa_cons (pe_op op_add (pe_op op_sub (pv 3) (pv 2)) pe_int) pa_nil)))))
    (pss_one (ps_ret (pe_join pe_str (pe_lc (own := [("_law_k", 5)]) (g := (gName 5)) (tt := tYes) rfl nd (pi_range1 rfl T.n_range (pa_cons (pv 4) pa_nil)) (blkOk_by (N := N__law_word_of) (sc := defScope s__law_word_of) (by decide +kernel)) (fun _ _ _ _ _ => (pg_name (i := 5) nd rfl (Or.inl rfl))) (fun _ _ _ _ _ => pts_nil)
      (fun _ _ _ _ _ => (pe_ix ix_str (pv 1) (pe_fn (ok_law_pick T) (hr.mono (by decide)) (by rfl) T.m__law_pick T.F__law_pick.kp T.b__law_pick .nil (fun _ => atN _) (pa_cons (pv 0) (pa_cons (pe_callB call_len_str (by rfl) T.n_len PySem.boot_len (pa_cons (pv 1) pa_nil)) pa_nil))) (fun _ _ => rfl)))))))), ?_⟩
  refine ⟨_, rfl, _, rfl, _, rfl, _, rfl, _, _, rfl, rfl, _, _, rfl, rfl, d, _, rfl, by omega, hD, fun H1 r h0 h1 D1 B1 => ⟨_, _, rfl, rfl, ?_⟩⟩
  refine ⟨⟨_, rfl⟩, _, rfl, l + r, rfl, by omega, by omega, fun D hDn => lc_range (lo := 0) (n := (l + r).toNat) (fun i H2 => ∃ ys : List Str, H2 D = some (.lst (ys.map V.str)) ∧ ys.length = i ∧ (∀ y ∈ ys, y.length = 1 ∧ Over z y) ∧ Dr H2 d ∧ But [d] H H2) ?_ ?_ ?_⟩
  · exact ⟨[], upd_same, rfl, (fun y hy => by cases hy), D1.same (Rz.Same.new (Same.refl _) hDn), B1.upd (.inr (B1.free (fun z => by
      obtain ⟨_, q, _⟩ := D1
      have e : D = d := by simpa using z
      rw [e, q] at hDn
      cases hDn) hDn))⟩
  · rintro i H2 hi ⟨ys, hY, hl, hy, D2, B2⟩
    refine ⟨rfl, yesT ⟨_, rfl, _, rfl, _, rfl, z, rfl, by rw [sizeLine_eq]; omega, d, _, rfl, by omega, D2, fun H3 r2 g0 g1 D3 B3 => ?_⟩⟩
    obtain ⟨c, hc, hat⟩ := atI_in (xs := z.cps.toList) g0 (by rw [len_list]; exact g1)
    have nDd : D ∉ [d] := fun z => by
      obtain ⟨_, q, _⟩ := D1
      have e : D = d := by simpa using z
      rw [e, q] at hDn
      cases hDn
    have hY3 := B3.at hY nDd
    have l3 : ys.length < sizeLine := by rw [sizeLine_eq]; omega
    refine ⟨z, _, c, rfl, rfl, by rw [sizeLine_eq]; omega, hat, _, hY3, by rw [List.length_map]; exact l3, ys ++ [⟨#[c]⟩], by rw [upd_same, List.map_append]; rfl, by rw [List.length_append, hl]; rfl, fun y h => ?_, ?_, ?_⟩
    · rcases List.mem_append.mp h with h | h
      · exact hy y h
      · have e : y = ⟨#[c]⟩ := by simpa using h
        subst e
        exact ⟨rfl, fun c2 h2 => by
          have e2 : c2 = c := by simpa using h2
          rw [e2]
          exact hc⟩
    · obtain ⟨ns, n1, n2⟩ := D3
      exact ⟨ns, by rw [upd_ne (fun z => nDd (by simp [z]))]; exact n1, n2⟩
    · exact (B2.trans B3).upd (.inr (B1.free nDd hDn))
  · rintro H2 ⟨ys, hY, hl, hy, D2, B2⟩
    have s1 := sum_ones fun y h => (hy y h).1
    refine ⟨_, D, ys, rfl, rfl, .inl (SqL.of hY), by show _ + ys.length * 0 ≤ _; omega, k H2 _ ?_ ?_ (over_join fun y h => (hy y h).2) D2 B2⟩
    · rw [join0_len]; omega
    · rw [join0_len]; omega
end
end Rz

namespace Rz
open PySem PySem.Spec PyProof.Rows L2
def sp_law_is_int : Sp := fun vs H Q _ => ∃ n : Int, vs = [.int n] ∧ Q (.bl true) H
section
variable {w : World} {K : PySem.W.Frag} {mg : Str → Option Value} {base : Heap}
theorem sc_law_is_int : FnScope N__law_is_int P__law_is_int (defScope s__law_is_int) := ⟨rfl, rfl, rfl, by decide +kernel, rfl, by decide +kernel, by decide +kernel⟩
theorem ok_law_is_int (T : Txt K mg) : FnOk prg w K mg base (L2.CX prg w) 1 T.f__law_is_int T.fd__law_is_int P__law_is_int sp_law_is_int := by
  refine Rz.Fun.okN T.F__law_is_int sc_law_is_int (fun vs H Q E h => ?_) (fun cdv A outer s H vs Q E hr h => ?_)
  · obtain ⟨n, rfl, _⟩ := h
    rfl
  obtain ⟨n, rfl, k⟩ := h
  refine ⟨_, (pss_one (ps_ret (pe_and (pe_callB call_isi (by rfl) T.n_isinstance (by decide +kernel) (pa_cons (pv 0) (pa_cons (pe_bltn (v := .ty "int") (by rfl) T.n_int (by decide +kernel) rfl) pa_nil))) (pe_one (pe_not (pe_callB call_isi (by rfl) T.n_isinstance (by decide +kernel) (pa_cons (pv 0) (pa_cons (pe_bltn (v := .ty "bool") (by rfl) T.n_bool (by decide +kernel) rfl) pa_nil)))))))), ?_⟩
  refine ⟨_, rfl, _, _, .type "int", .type "int", true, rfl, .ty _, .base (.int n), kit_ty (by decide +kernel), true, rfl, ?_⟩
  exact iteT ⟨_, rfl, _, _, .type "int", .type "bool", false, rfl, .ty _, .base (.int n), kit_ty (by decide +kernel), false, rfl, k⟩
end
end Rz

namespace Rz
open PySem PySem.Spec PyProof.Rows L2
/-! ### lists of pairs of texts -/
def sdV (r : Ru) : List V := [.str r.1, .str r.2]
def SdL (H : Hp) (ts : List Addr) (rs : List Ru) : Prop := Paired (fun (t : Addr) (r : Ru) => H t = some (.tup (sdV r))) ts rs
def SAt (H : Hp) (l : Addr) (rs : List Ru) : Prop := ∃ ts : List Addr, H l = some (.lst (ts.map V.ref)) ∧ SdL H ts rs
theorem SdL.keep {H H' : Hp} (h : Tups H H') : ∀ {ts : List Addr} {rs : List Ru}, SdL H ts rs → SdL H' ts rs
  | _, _, .nil => .nil
  | _, _, .cons e r => .cons (h _ _ e) (SdL.keep h r)
theorem SdL.len {H : Hp} {ts : List Addr} {rs : List Ru} (h : SdL H ts rs) : ts.length = rs.length := Paired.length h
theorem SdL.append {H : Hp} : ∀ {ts us : List Addr} {rs qs : List Ru}, SdL H ts rs → SdL H us qs → SdL H (ts ++ us) (rs ++ qs)
  | _, _, _, _, .nil, s => s
  | _, _, _, _, .cons e t, s => .cons e (SdL.append t s)
theorem SdL.take {H : Hp} : ∀ {ts : List Addr} {rs : List Ru} (n : Nat), SdL H ts rs → SdL H (ts.take n) (rs.take n)
  | _, _, 0, _ => .nil
  | _, _, _ + 1, .nil => .nil
  | _, _, n + 1, .cons e r => .cons e (SdL.take n r)
theorem SdL.drop {H : Hp} : ∀ {ts : List Addr} {rs : List Ru} (n : Nat), SdL H ts rs → SdL H (ts.drop n) (rs.drop n)
  | _, _, 0, h => h
  | _, _, _ + 1, .nil => .nil
  | _, _, n + 1, .cons _ r => SdL.drop n r
theorem SdL.get {H : Hp} : ∀ {ts : List Addr} {rs : List Ru} {i : Nat} {t : Addr}, SdL H ts rs → ts[i]? = some t → ∃ r, rs[i]? = some r ∧ H t = some (.tup (sdV r))
  | _, _, i, t, .nil, h => by cases h
  | _, _, 0, t, .cons e r, h => by
    have z := Option.some.inj h
    subst z
    exact ⟨_, rfl, e⟩
  | _, _, i + 1, t, .cons e r, h => SdL.get (i := i) r (by simpa using h)
theorem SAt.same {H H' : Hp} {l : Addr} {rs : List Ru} (S : Same H H') (a : SAt H l rs) : SAt H' l rs := let ⟨ts, h1, h2⟩ := a; ⟨ts, S _ _ h1, h2.keep (.of S)⟩
theorem SAt.but {D : List Addr} {H H' : Hp} {l : Addr} {rs : List Ru} (a : SAt H l rs) (B : But D H H') (n : l ∉ D) (t : Tups H H') : SAt H' l rs := let ⟨ts, h1, h2⟩ := a; ⟨ts, B.at h1 n, h2.keep t⟩
theorem lc_sides {K : PySem.W.Frag} {l : Addr} {rs : List Ru} {g : TG} {te : TE} {vs : List Nat} {σ : L2.St} {H1 : Hp} {D : Addr} {Qd : Hp → Prop} (f : Ru → V) (hL : SAt H1 l rs) (hz : rs.length ≤ sizeLine) (hD : H1 D = none)
    (body : ∀ (t : Addr) (r : Ru) (H : Hp) (Q : VK), r ∈ rs → Same H1 H → H t = some (.tup (sdV r)) → (∀ H4, Same H H4 → Q (f r) H4) → g (.ref t) (wipe σ vs) H fun σ2 H2 => wipe σ2 vs = wipe σ vs ∧ te σ2 H2 Q)
    (hd : ∀ H, Same H1 H → H D = some (.lst (rs.map f)) → Qd H) :
    ∃ W : Nat → Nat → Hp → Prop, (∃ m, W 0 m (upd H1 D (.lst []))) ∧ ∀ i m H, W i m H →
      ((Itl K l).stop i H ∧ Qd H) ∨ ((Itl K l).go i H ∧ ∃ Nx : Hp → Prop, (∀ H', Nx H' → ∃ m', m' < m ∧ W (i + 1) m' H') ∧ ∀ x H', (Itl K l).yld i H x H' → g x (wipe σ vs) H' fun σ2 H2 => wipe σ2 vs = wipe σ vs ∧ tYes σ2 H2 fun b H3 =>
        if b = true then te σ2 H3 fun y H4 => ∃ acc, H4 D = some (.lst acc) ∧ acc.length < sizeLine ∧ Nx (upd H4 D (.lst (acc ++ [y]))) else Nx H3) := by
  obtain ⟨ts, hl, hP⟩ := hL
  refine lc_list (K := K) (a := l) (xs := ts.map V.ref) (fun i H => Same H1 H ∧ H D = some (.lst ((rs.take i).map f))) ⟨Rz.Same.new (Same.refl H1) hD, upd_same⟩ (fun i H _ h => SqL.of (h.1 _ _ hl)) (fun i x H hx h => ?_) (fun H h => hd H h.1 ?_)
  · obtain ⟨S, e⟩ := h
    obtain ⟨t, ht, rfl⟩ := refs_get hx
    obtain ⟨p, hp, h2⟩ := hP.get ht
    have hi : i < rs.length := (List.getElem?_eq_some_iff.mp hp).1
    refine body t p H _ (List.mem_of_getElem? hp) S (S _ _ h2) fun H4 S4 => ⟨_, S4 _ _ e, ?_, Rz.Same.upd (S.trans S4) hD, ?_⟩
    · rw [List.length_map, List.length_take]
      omega
    · rw [upd_same, List.take_add_one, hp, List.map_append]
      rfl
  · have := h.2
    rw [List.length_map, hP.len, List.take_length] at this
    exact this
/-- as data -/
abbrev dSd (r : Ru) : PyData := .tuple [.str r.1, .str r.2]
abbrev dSds (rs : List Ru) : PyData := .list (rs.map dSd)
theorem sds_all {K : PySem.W.Frag} {H : Hp} : ∀ {ts : List Addr} {rs : List Ru}, SdL H ts rs → DpAll K H (ts.map V.ref) (rs.map dSd)
  | _, _, .nil => .nil
  | _, _, .cons e r => .cons (.tup (SqT.of e) (.cons (.str _) (.cons (.str _) .nil))) (sds_all r)
theorem sds_at {K : PySem.W.Frag} {H : Hp} {l : Addr} {rs : List Ru} (h : SAt H l rs) : Dp K H (.ref l) (dSds rs) := let ⟨_, h1, h2⟩ := h; .lst (SqL.of h1) (sds_all h2)
end Rz

namespace Rz
open PySem PySem.Spec PyProof.Rows L2
theorem strOk_of {z : Str} (h : fo z = none) : PyData.strOk z = true := by
  show z.cps.all (· < 0x110000) = true
  rw [← Array.all_toList, List.all_eq_true]
  intro c hc
  have le : ∀ y ∈ abc.cps.toList, y < 0x110000 := by decide +kernel
  exact decide_eq_true (le c (fo_in h c hc))
end Rz

namespace Rz
open PySem PySem.Spec PyProof.Rows L2
theorem rd_good {l r : Str} (h : rd l r = .good) : fo l = none ∧ fo r = none ∧ 1 ≤ l.length ∧ l.length ≤ 4 ∧ r.length ≤ 4 := by
  unfold rd at h
  cases e1 : fo l with
  | some i => rw [e1] at h; cases h
  | none =>
    rw [e1] at h
    cases e2 : fo r with
    | some i => rw [e2] at h; cases h
    | none =>
      rw [e2] at h
      dsimp only at h
      by_cases c : l.length < 1 ∨ l.length > 4 ∨ r.length > 4
      · rw [if_pos c] at h; cases h
      · exact ⟨rfl, rfl, by omega, by omega, by omega⟩
theorem good_rd {l r : Str} (h1 : fo l = none) (h2 : fo r = none) (h3 : 1 ≤ l.length) (h4 : l.length ≤ 4) (h5 : r.length ≤ 4) : rd l r = .good := by
  unfold rd
  rw [h1]
  dsimp only
  rw [h2]
  dsimp only
  rw [if_neg (by omega)]
theorem str_ne {z : Str} (h : 1 ≤ z.length) : z.cps.toList ≠ [] := fun e => by
  have : z.cps.toList.length = 0 := by rw [e]; rfl
  rw [len_list] at this
  omega
theorem rep1 (n : Nat) (h : Int) : (List.replicate n [V.int h]).flatten = (List.replicate n h).map V.int := by
  induction n with
  | zero => rfl
  | succ n ih => rw [List.replicate_succ, List.flatten_cons, ih]; rfl
theorem cut_hts {ps : List Pr} {i n : Nat} (h : i + n ≤ ps.length) : cutV ((hts ps).map V.int) (some (i : Int)) (some ((i + n : Nat) : Int)) = (hts ((ps.drop i).take n)).map V.int := by
  rw [cutV_nat (by omega) (by rw [List.length_map, hts_len]; exact h)]
  unfold hts
  rw [show i + n - i = n by omega, ← List.map_drop, ← List.map_take, ← List.map_drop, ← List.map_take]
end Rz

namespace Rz
open PySem PySem.Spec PyProof.Rows L2
theorem over_fo {z x : Str} (hz : Over abc z) (h : Over z x) : fo x = none := List.findIdx?_eq_none_iff.mpr fun c hc => by simp [oddC, hz c (h c hc)]
theorem word_good {z l r : Str} (hz : Over abc z) (hl : Over z l) (hr : Over z r) (l1 : 1 ≤ l.length) (l4 : l.length ≤ 4) (r4 : r.length ≤ 4) : rd l r = .good := by
  unfold rd
  rw [over_fo hz hl]
  dsimp only
  rw [over_fo hz hr]
  dsimp only
  rw [if_neg (by omega)]
theorem good_one {rs : List Ru} {r : Ru} (h : GoodB rs) (g : rd r.1 r.2 = .good) : GoodB (rs ++ [r]) := fun x hx => by
  rcases List.mem_append.mp hx with e | e
  · exact h x e
  · have e2 : x = r := by simpa using e
    rw [e2]
    exact g
theorem SAt.some {H : Hp} {l : Addr} {rs : List Ru} (a : SAt H l rs) : ∃ o, H l = Option.some o := let ⟨_, h, _⟩ := a; ⟨_, h⟩
theorem SAt.upd {H : Hp} {l q : Addr} {rs : List Ru} {o : HO} (a : SAt H l rs) (n : l ≠ q) (t : ∀ xs, H q ≠ Option.some (.tup xs)) : SAt (L2.upd H q o) l rs := let ⟨ts, h1, h2⟩ := a; ⟨ts, by rw [upd_ne n]; exact h1, h2.keep (Tups.upd (Tups.of (Same.refl H)) t)⟩
theorem to_goS {K : PySem.W.Frag} {H : Hp} {l : Addr} {rs : List Ru} {Q : VK} {j : Nat} (hu : SAt H l rs) (hj : j ≤ rs.length) (k : ∀ (p : Addr) (H' : Hp), H p = none → Same H H' → SAt H' p (rs.take j) → Q (.ref p) H') : rSlL K (.ref l) none (some (j : Int)) H Q := by
  obtain ⟨ts, e1, P1⟩ := hu
  refine ⟨l, _, rfl, SqL.of e1, fun p hp => ?_⟩
  have S := Rz.Same.new (o := .lst (cutV (ts.map V.ref) none (some (j : Int)))) (Same.refl H) hp
  exact k p _ hp S ⟨ts.take j, by rw [upd_same, cutV_to (by rw [List.length_map, P1.len]; exact hj), List.map_take], (P1.take j).keep (Tups.of S)⟩
theorem from_goS {K : PySem.W.Frag} {H : Hp} {l : Addr} {rs : List Ru} {Q : VK} {i : Nat} {σ : L2.St} (hu : SAt H l rs) (hi : i ≤ rs.length) (k : ∀ (p : Addr) (H' : Hp), H p = none → Same H H' → SAt H' p (rs.drop i) → Q (.ref p) H') : tNoPart σ H fun u H3 => rSlL K (.ref l) (some (i : Int)) u H3 Q := by
  obtain ⟨ts, e1, P1⟩ := hu
  refine ⟨l, _, rfl, SqL.of e1, fun p hp => ?_⟩
  have S := Rz.Same.new (o := .lst (cutV (ts.map V.ref) (some (i : Int)) none)) (Same.refl H) hp
  exact k p _ hp S ⟨ts.drop i, by rw [upd_same, cutV_from (by rw [List.length_map, P1.len]; exact hi), List.map_drop], (P1.drop i).keep (Tups.of S)⟩
theorem copy_goS {K : PySem.W.Frag} {H : Hp} {l : Addr} {rs : List Ru} {Q : VK} (hu : SAt H l rs) (k : ∀ (p : Addr) (H' : Hp), H p = none → Same H H' → SAt H' p rs → Q (.ref p) H') : rListS K [V.ref l] H Q := by
  obtain ⟨ts, e1, P1⟩ := hu
  unfold rListS
  refine ⟨l, _, rfl, SqL.of e1, fun p hp => ?_⟩
  have S := Rz.Same.new (o := .lst (ts.map V.ref)) (Same.refl H) hp
  exact k p _ hp S ⟨ts, upd_same, P1.keep (Tups.of S)⟩
theorem cat_goS {H : Hp} {l m : Addr} {us vs : List Ru} {Q : VK} (hu : SAt H l us) (hv : SAt H m vs) (hz : us.length + vs.length ≤ 1000000) (k : ∀ (p : Addr) (H' : Hp), H p = none → Same H H' → SAt H' p (us ++ vs) → Q (.ref p) H') : rCat (.ref l) (.ref m) H Q := by
  obtain ⟨ts, e1, P1⟩ := hu
  obtain ⟨ws, e2, P2⟩ := hv
  refine ⟨l, m, _, _, rfl, rfl, e1, e2, by rw [List.length_map, List.length_map, P1.len, P2.len, sizeLine_eq]; omega, fun p hp => ?_⟩
  have S := Rz.Same.new (o := .lst (ts.map V.ref ++ ws.map V.ref)) (Same.refl H) hp
  exact k p _ hp S ⟨ts ++ ws, by rw [upd_same, List.map_append], (P1.append P2).keep (Tups.of S)⟩
theorem bd_ne {cB cC : Addr} {H : Hp} {b t d : Addr} {rs : List Ru} (h : BkAt cB cC H b t rs) (D : Dr H d) : b ≠ d := fun e => by
  obtain ⟨dx, ts, h1, _⟩ := h
  obtain ⟨xs, h2⟩ := D.isL
  rw [e, h2] at h1
  cases h1
theorem drN {cB : Addr} {H : Hp} {d : Addr} (D : Dr H d) : ∀ x ∈ [d], (∃ xs, H x = Option.some (.lst xs)) ∨ ∃ dx v, H x = Option.some (.ins cB dx [("_rules", v)]) := fun x hx => by
  have e : x = d := by simpa using hx
  rw [e]
  exact .inl D.isL
theorem len_goS {K : PySem.W.Frag} {H : Hp} {l : Addr} {rs : List Ru} {Q : VK} (hu : SAt H l rs) (k : Q (.int (rs.length : Nat)) H) : rLenS K [V.ref l] H Q := by
  obtain ⟨ts, e1, P1⟩ := hu
  exact lenS_go (SqL.of e1) (by rw [List.length_map, P1.len]; exact k)
theorem sb_ne {cB cC : Addr} {H : Hp} {b t l : Addr} {rs qs : List Ru} (A : SAt H l qs) (h : BkAt cB cC H b t rs) : l ≠ b := fun e => by
  obtain ⟨dx, ts, h1, _⟩ := h
  obtain ⟨us, h2, _⟩ := A
  rw [← e, h2] at h1
  cases h1
theorem bkT {cB cC : Addr} {H H' : Hp} {b t : Addr} {rs : List Ru} (h : BkAt cB cC H b t rs) (B : But [b] H H') : Tups H H' := Tups.but B fun x hx xs e => by
  have e2 : x = b := by simpa using hx
  obtain ⟨dx, ts, h1, _⟩ := h
  rw [e2, h1] at e
  cases e
theorem bkN {cB cC : Addr} {H : Hp} {b t : Addr} {rs : List Ru} (h : BkAt cB cC H b t rs) : ∀ x ∈ [b], (∃ xs, H x = Option.some (.lst xs)) ∨ ∃ dx v, H x = Option.some (.ins cB dx [("_rules", v)]) := fun x hx => by
  have e : x = b := by simpa using hx
  obtain ⟨dx, ts, h1, _⟩ := h
  rw [e]
  exact .inr ⟨_, _, h1⟩
theorem sd_eqv (r : Ru) : PyData.eqv (dSd r) (dSd r) = true := by
  show PyData.eqvAll _ _ = true
  simp [PyData.eqvAll, PyData.eqv]
theorem sd_shaped {r : Ru} (h : rd r.1 r.2 = .good) : SeqAt.shaped (dSd r) = true := by
  have g := rd_fo h
  have a : PyData.canLayAll0 [PyData.str r.1, PyData.str r.2] = true := by simp [PyData.canLayAll0, PyData.canLay0, strOk_of g.1, strOk_of g.2]
  have d : PyData.depth (dSd r) ≤ 64 := by simp [PyData.depth, PyData.depthAll]
  show (PyData.canLayAll0 [PyData.str r.1, PyData.str r.2] && decide (PyData.depth (dSd r) ≤ 64)) = true
  rw [a, decide_eq_true d]
  rfl
theorem dp_sd {K : PySem.W.Frag} {H : Hp} {q : Addr} {r : Ru} (h : H q = Option.some (.tup [.str r.1, .str r.2])) : Dp K H (.ref q) (dSd r) := .tup (SqT.of h) (.cons (.str _) (.cons (.str _) .nil))
end Rz

namespace Rz
open PySem PySem.Spec PyProof.Rows L2
/-! ### the small books, written with digits -/
def planTab : List (List Ru) := [[("01", "1")], [("00", "010")], [("01", "110")], [("01", "10")], [("00", "1"), ("11", "0")], [("01", ""), ("10", "")], [("0", "12"), ("21", "0")], [("00", "0")], [("001", "10")], [("010", "1001")], [("0", "1"), ("1", "2")], [("00", "12"), ("2", "")]]
def planT (rs : List Ru) : Str := Txt.join " " (rs.map fun r => ruleT r.1 r.2)
abbrev planL : List Str := ["01:1", "00:010", "01:110", "01:10", "00:1 11:0", "01: 10:", "0:12 21:0", "00:0"]
abbrev planM : List Str := ["001:10", "010:1001", "0:1 1:2", "00:12 2:"]
theorem plan_texts : planL ++ planM = planTab.map planT := by decide +kernel
theorem plan_digs : ∀ rs ∈ planTab, rs ≠ [] ∧ rs.length ≤ 6 ∧ ∀ r ∈ rs, (∀ c ∈ r.1.cps.toList, c = 48 ∨ c = 49 ∨ c = 50) ∧ (∀ c ∈ r.2.cps.toList, c = 48 ∨ c = 49 ∨ c = 50) ∧ 1 ≤ r.1.length ∧ r.1.length ≤ 4 ∧ r.2.length ≤ 4 := by decide +kernel
theorem plan_len : ∀ rs ∈ planTab, (planT rs).length ≤ 20 := by decide +kernel
theorem mapT_len (f : Nat → Nat) (x : Str) : (mapT f x).length = x.length := by
  have h := congrArg List.length (mapT_list f x)
  rw [List.length_map] at h
  exact h
theorem mapT_mapT (f g : Nat → Nat) (x : Str) : mapT f (mapT g x) = mapT (fun e => f (g e)) x := by
  refine str_ext ?_
  rw [mapT_list, mapT_list, mapT_list, List.map_map]
  rfl
theorem mapT_id (x : Str) : mapT (fun e => e) x = x := by
  refine str_ext ?_
  rw [mapT_list]
  exact List.map_id _
theorem ruleT_list (l r : Str) : (ruleT l r).cps.toList = l.cps.toList ++ 58 :: r.cps.toList := by
  rw [ruleT_join]
  have b := TL.tl_join ":" [l, r]
  rw [← TL.join_eq] at b
  exact b
theorem mapT_rule {f : Nat → Nat} (h : f 58 = 58) (l r : Str) : mapT f (ruleT l r) = ruleT (mapT f l) (mapT f r) := by
  refine str_ext ?_
  rw [mapT_list, ruleT_list, ruleT_list, List.map_append, List.map_cons, h, mapT_list, mapT_list]
theorem joinL_map (f : Nat → Nat) (s : List Nat) : ∀ ps : List (List Nat), (TL.joinL s ps).map f = TL.joinL (s.map f) (ps.map fun p => p.map f)
  | [] => rfl
  | [p] => rfl
  | p :: q :: r => by
    have ih := joinL_map f s (q :: r)
    show (p ++ (s ++ TL.joinL s (q :: r))).map f = p.map f ++ (s.map f ++ TL.joinL (s.map f) ((q :: r).map fun p => p.map f))
    rw [List.map_append, List.map_append, ih]
def mapR (f : Nat → Nat) (r : Ru) : Ru := (mapT f r.1, mapT f r.2)
theorem planT_list (rs : List Ru) : (planT rs).cps.toList = TL.joinL [32] ((rs.map fun r => ruleT r.1 r.2).map fun y => y.cps.toList) := by
  have h := TL.tl_join " " (rs.map fun r => ruleT r.1 r.2)
  rw [← TL.join_eq] at h
  exact h
theorem mapT_plan {f : Nat → Nat} (h1 : f 58 = 58) (h2 : f 32 = 32) (rs : List Ru) : mapT f (planT rs) = planT (rs.map (mapR f)) := by
  refine str_ext ?_
  rw [mapT_list, planT_list, planT_list, joinL_map]
  have e : [32].map f = [32] := by rw [List.map_cons, h2]; rfl
  rw [e, List.map_map, List.map_map, List.map_map, List.map_map]
  congr 1
  refine List.map_congr_left fun r _ => ?_
  show (ruleT r.1 r.2).cps.toList.map f = (ruleT (mapT f r.1) (mapT f r.2)).cps.toList
  rw [← mapT_rule h1, mapT_list]
theorem abc_ge : ∀ c ∈ abc.cps.toList, 97 ≤ c ∧ c ≤ 122 := by decide +kernel
def sub1 (d c e : Nat) : Nat := if e = d then c else e
/-- the first signs stand for their digits -/
def subs (z : List Nat) : Nat → Nat → Nat
  | 0, e => e
  | j + 1, e => sub1 (48 + j) (z.getD j 97) (subs z j e)
theorem subs_out {z : List Nat} (hz : ∀ c ∈ z, 97 ≤ c) {e : Nat} (h : e < 48 ∨ (50 < e ∧ e < 97)) : ∀ j, j ≤ 3 → subs z j e = e
  | 0, _ => rfl
  | j + 1, hj => by
    have ih := subs_out hz h j (by omega)
    show sub1 _ _ (subs z j e) = e
    rw [ih]
    exact if_neg (by omega)
theorem subs_dig {a b c e : Nat} (ha : a ∈ abc.cps.toList) (hb : b ∈ abc.cps.toList) (hc : c ∈ abc.cps.toList) (h : e = 48 ∨ e = 49 ∨ e = 50) : subs [a, b, c] 3 e ∈ abc.cps.toList := by
  have ga := (abc_ge a ha).1
  have gb := (abc_ge b hb).1
  show sub1 50 c (sub1 49 b (sub1 48 a e)) ∈ _
  rcases h with rfl | rfl | rfl
  · have e1 : sub1 48 a 48 = a := rfl
    have e2 : sub1 49 b a = a := if_neg (by omega)
    have e3 : sub1 50 c a = a := if_neg (by omega)
    rw [e1, e2, e3]
    exact ha
  · have e1 : sub1 48 a 49 = 49 := rfl
    have e2 : sub1 49 b 49 = b := rfl
    have e3 : sub1 50 c b = b := if_neg (by omega)
    rw [e1, e2, e3]
    exact hb
  · have e1 : sub1 48 a 50 = 50 := rfl
    have e2 : sub1 49 b 50 = 50 := rfl
    have e3 : sub1 50 c 50 = c := rfl
    rw [e1, e2, e3]
    exact hc
theorem plan_good {rs : List Ru} (h : rs ∈ planTab) {a b c : Nat} (ha : a ∈ abc.cps.toList) (hb : b ∈ abc.cps.toList) (hc : c ∈ abc.cps.toList) : GoodB (rs.map (mapR (subs [a, b, c] 3))) := fun r hr => by
  obtain ⟨q, hq, rfl⟩ := List.mem_map.mp hr
  obtain ⟨d1, d2, l1, l4, r4⟩ := (plan_digs rs h).2.2 q hq
  have ov : ∀ x : Str, (∀ c ∈ x.cps.toList, c = 48 ∨ c = 49 ∨ c = 50) → fo (mapT (subs [a, b, c] 3) x) = none := fun x hx => over_fo (z := abc) (fun _ z => z) fun y hy => by
    rw [mapT_list] at hy
    obtain ⟨e, he, rfl⟩ := List.mem_map.mp hy
    exact subs_dig ha hb hc (hx e he)
  exact good_rd (ov _ d1) (ov _ d2) (by rw [show (mapR (subs [a, b, c] 3) q).1 = mapT _ q.1 from rfl, mapT_len]; exact l1) (by rw [show (mapR (subs [a, b, c] 3) q).1 = mapT _ q.1 from rfl, mapT_len]; exact l4) (by rw [show (mapR (subs [a, b, c] 3) q).2 = mapT _ q.2 from rfl, mapT_len]; exact r4)
theorem planT_split {rs : List Ru} (h : GoodB rs) (n : rs ≠ []) : Txt.split (planT rs) " " = rs.map fun r => ruleT r.1 r.2 := by
  unfold planT
  refine TL.split_join (s := 32) (S := []) rfl (by decide +kernel) (by simpa using n) fun p hp => ?_
  obtain ⟨r, hr, rfl⟩ := List.mem_map.mp hp
  have g := rd_fo (h r hr)
  have na : 32 ∉ abc.cps.toList := by decide +kernel
  show 32 ∉ (ruleT r.1 r.2).cps.toList
  rw [ruleT_list]
  intro z
  rcases List.mem_append.mp z with z | z
  · exact na (fo_in g.1 _ z)
  · rcases List.mem_cons.mp z with z | z
    · cases z
    · exact na (fo_in g.2 _ z)
end Rz

namespace Rz
open PySem PySem.Spec PyProof.Rows L2
/-- rules over these signs -/
def OvB (z : Str) (rs : List Ru) : Prop := ∀ r ∈ rs, Over z r.1 ∧ Over z r.2
theorem subs_digZ {a b c e : Nat} (ha : a ∈ abc.cps.toList) (hb : b ∈ abc.cps.toList) (h : e = 48 ∨ e = 49 ∨ e = 50) : subs [a, b, c] 3 e ∈ [a, b, c] := by
  have ga := (abc_ge a ha).1
  have gb := (abc_ge b hb).1
  show sub1 50 c (sub1 49 b (sub1 48 a e)) ∈ _
  rcases h with rfl | rfl | rfl
  · have e1 : sub1 48 a 48 = a := rfl
    have e2 : sub1 49 b a = a := if_neg (by omega)
    have e3 : sub1 50 c a = a := if_neg (by omega)
    rw [e1, e2, e3]
    simp
  · have e1 : sub1 48 a 49 = 49 := rfl
    have e2 : sub1 49 b 49 = b := rfl
    have e3 : sub1 50 c b = b := if_neg (by omega)
    rw [e1, e2, e3]
    simp
  · have e1 : sub1 48 a 50 = 50 := rfl
    have e2 : sub1 49 b 50 = 50 := rfl
    have e3 : sub1 50 c 50 = c := rfl
    rw [e1, e2, e3]
    simp
theorem plan_over {rs : List Ru} (h : rs ∈ planTab) {z : Str} {a b c : Nat} (ez : z.cps.toList = [a, b, c]) (ha : a ∈ abc.cps.toList) (hb : b ∈ abc.cps.toList) : OvB z (rs.map (mapR (subs [a, b, c] 3))) := fun r hr => by
  obtain ⟨q, hq, rfl⟩ := List.mem_map.mp hr
  obtain ⟨d1, d2, _⟩ := (plan_digs rs h).2.2 q hq
  have ov : ∀ x : Str, (∀ c ∈ x.cps.toList, c = 48 ∨ c = 49 ∨ c = 50) → Over z (mapT (subs [a, b, c] 3) x) := fun x hx y hy => by
    rw [mapT_list] at hy
    obtain ⟨e, he, rfl⟩ := List.mem_map.mp hy
    rw [ez]
    exact subs_digZ ha hb (hx e he)
  exact ⟨ov _ d1, ov _ d2⟩
/-- at most 6 good rules over z, as a new list of pairs -/
def sp_law_book_of : Sp := fun vs H Q _ => ∃ (d : Addr) (z : Str), vs = [.ref d, .str z] ∧ z.length = 3 ∧ Over abc z ∧ Dr H d ∧ ∀ H' l rs, Dr H' d → But [d] H H' → H l = none → SAt H' l rs → GoodB rs → OvB z rs → rs.length ≤ 6 → Q (.ref l) H'
theorem split_goS {a b : Str} {H : Hp} {Q : VK} (hb : (b.length == 0) = false) (ha : a.length + 2 ≤ sizeLine) (k : ∀ p, H p = none → Q (.ref p) (upd H p (.lst ((Txt.split a b).map V.str)))) : ∃ x y, V.str a = .str x ∧ [V.str b] = [.str y] ∧ (y.length == 0) = false ∧ x.length + 2 ≤ sizeLine ∧ ∀ p, H p = none → Q (.ref p) (upd H p (.lst ((Txt.split x y).map V.str))) := ⟨a, b, rfl, rfl, hb, ha, k⟩
section
variable {w : World} {K : PySem.W.Frag} {mg : Str → Option Value} {base : Heap}
theorem sc_law_book_of : FnScope N__law_book_of P__law_book_of (defScope s__law_book_of) := ⟨rfl, rfl, rfl, by decide +kernel, rfl, by decide +kernel, by decide +kernel⟩
theorem ok_law_book_of (T : Txt K mg) : FnOk prg w K mg base (L2.CX prg w) 3 T.f__law_book_of T.fd__law_book_of P__law_book_of sp_law_book_of := by
  refine Rz.Fun.okN T.F__law_book_of sc_law_book_of (fun vs H Q E h => ?_) (fun cdv A outer s H vs Q E hr h => ?_)
  · obtain ⟨d, z, rfl, _⟩ := h
    rfl
  obtain ⟨d, z, rfl, hz3, hz, hD, k⟩ := h
  have nd := sc_law_book_of.nd
  have two : (2 : Nat) ≤ sizeLine := by decide
  refine ⟨_, (pss_cons (ps_set (i := 2) nd rfl (Or.inl rfl) (pe_lst (pa_cons pe_str (pa_cons pe_str (pa_cons pe_str (pa_cons pe_str (pa_cons pe_str (pa_cons pe_str (pa_cons pe_str (pa_cons pe_str pa_nil))))))))))
    (pss_cons (ps_set (i := 2) nd rfl (Or.inl rfl) (pe_op op_cat (pv 2) (pe_lst (pa_cons pe_str (pa_cons pe_str (pa_cons pe_str (pa_cons pe_str pa_nil)))))))
    (pss_cons (ps_set (i := 3) nd rfl (Or.inl rfl) (pe_fn (ok_law_pick T) (hr.mono (by decide)) (by rfl) T.m__law_pick T.F__law_pick.kp T.b__law_pick .nil (fun _ => atN _) (pa_cons (pv 0) (pa_cons pe_int pa_nil))))
    (pss_cons (ps_if (pt_cmpR op_eq (pv 3) pe_int (nomark _)) (pss_cons (ps_set (i := 4) nd rfl (Or.inl rfl) (pe_ix ix_list (pv 2) (pe_fn (ok_law_pick T) (hr.mono (by decide)) (by rfl) T.m__law_pick T.F__law_pick.kp T.b__law_pick .nil (fun _ => atN _) (pa_cons (pv 0) (pa_cons (pe_callB call_lenS (by rfl) T.n_len PySem.boot_len (pa_cons (pv 2) pa_nil)) pa_nil))) (fun _ _ => rfl)))
      (pss_cons (ps_for PassesOwn.never rfl (pi_range1 rfl T.n_range (pa_cons pe_int pa_nil)) (pg_name (i := 5) nd rfl (Or.inl rfl))
        (pss_one (ps_set (i := 4) nd rfl (Or.inl rfl) (pe_rep2 (pv 4) (pk_ixc (pv 5) (fun _ _ => rfl)) (pk_ix (pv 1) (pv 5) (fun _ _ => rfl))))))
      (pss_one (ps_ret (pe_lc (own := [("_law_part", 6)]) (g := (gName 6)) (tt := tYes) rfl nd (pi_list (pe_split (pv 4) pe_str)) (blkOk_by (N := N__law_book_of) (sc := defScope s__law_book_of) (by decide +kernel)) (fun _ _ _ _ _ => (pg_name (i := 6) nd rfl (Or.inl rfl))) (fun _ _ _ _ _ => pts_nil) (fun _ _ _ _ _ => (pe_tup (pa_cons (pe_ix (show IxR _ (rIxL K) from ix_list) (pe_split (pv 6) pe_str) pe_int (fun _ _ => rfl)) (pa_cons (pe_ix (show IxR _ (rIxL K) from ix_list) (pe_split (pv 6) pe_str) pe_int (fun _ _ => rfl)) pa_nil))))))))) pss_nil)
    (pss_cons (ps_set (i := 7) nd rfl (Or.inl rfl) (pe_fn (ok_law_pick T) (hr.mono (by decide)) (by rfl) T.m__law_pick T.F__law_pick.kp T.b__law_pick .nil (fun _ => atN _) (pa_cons (pv 0) (pa_cons pe_int pa_nil))))
    (C8.pss_cut (ps_if (PW.pt (pw_and (pt_cmpR op_eq (pv 3) pe_int (nomark _)) (pw_and1 (pt_cmpR op_eq (pe_fn (ok_law_pick T) (hr.mono (by decide)) (by rfl) T.m__law_pick T.F__law_pick.kp T.b__law_pick .nil (fun _ => atN _) (pa_cons (pv 0) (pa_cons pe_int pa_nil))) pe_int (nomark _))))) (pss_one (ps_set (i := 7) nd rfl (Or.inl rfl) (pe_op op_add pe_int (pe_fn (ok_law_pick T) (hr.mono (by decide)) (by rfl) T.m__law_pick T.F__law_pick.kp T.b__law_pick .nil (fun _ => atN _) (pa_cons (pv 0) (pa_cons pe_int pa_nil)))))) pss_nil)
    (pss_cons (ps_set (i := 8) nd rfl (Or.inl rfl) (pe_lst pa_nil))
    (pss_cons (ps_for PassesOwn.never rfl (pi_range1 rfl T.n_range (pa_cons (pv 7) pa_nil)) (pg_name (i := 5) nd rfl (Or.inl rfl))
      (pss_cons (ps_set (i := 9) nd rfl (Or.inl rfl) (pe_fn (ok_law_word_of T) (hr.mono (by decide)) (by rfl) T.m__law_word_of T.F__law_word_of.kp T.b__law_word_of .nil (fun _ => atN _) (pa_cons (pv 0) (pa_cons (pv 1) (pa_cons pe_int (pa_cons pe_int pa_nil))))))
      (pss_one (ps_expr (pe_bm PySem.F.plainAttrs_list PySem.F.slot_list_append PySem.F.type_list_append mt_append (pv 8) (pa_cons (pe_tup (pa_cons (pv 9) (pa_cons (pe_fn (ok_law_word_of T) (hr.mono (by decide)) (by rfl) T.m__law_word_of T.F__law_word_of.kp T.b__law_word_of .nil (fun _ => atN _) (pa_cons (pv 0) (pa_cons (pv 1) (pa_cons pe_int (pa_cons pe_int pa_nil))))) pa_nil))) pa_nil))))))
    (pss_one (ps_ret (pv 8))))))))))), ?_⟩
  refine ⟨by show 8 ≤ sizeLine; decide, fun p0 hp0 => ?_⟩
  have S0 := Rz.Same.new (o := .lst [.str "01:1", .str "00:010", .str "01:110", .str "01:10", .str "00:1 11:0", .str "01: 10:", .str "0:12 21:0", .str "00:0"]) (Same.refl H) hp0
  have e0 : upd H p0 (.lst [.str "01:1", .str "00:010", .str "01:110", .str "01:10", .str "00:1 11:0", .str "01: 10:", .str "0:12 21:0", .str "00:0"]) p0 = some (.lst (planL.map V.str)) := upd_same
  generalize upd H p0 (.lst [.str "01:1", .str "00:010", .str "01:110", .str "01:10", .str "00:1 11:0", .str "01: 10:", .str "0:12 21:0", .str "00:0"]) = H0 at S0 e0
  refine ⟨_, rfl, by show 4 ≤ sizeLine; decide, fun p1 hp1 => ?_⟩
  have S1 := Rz.Same.new (o := .lst [.str "001:10", .str "010:1001", .str "0:1 1:2", .str "00:12 2:"]) (Same.refl H0) hp1
  have e1 : upd H0 p1 (.lst [.str "001:10", .str "010:1001", .str "0:1 1:2", .str "00:12 2:"]) p1 = some (.lst (planM.map V.str)) := upd_same
  have e01 := S1 _ _ e0
  generalize upd H0 p1 (.lst [.str "001:10", .str "010:1001", .str "0:1 1:2", .str "00:12 2:"]) = H0' at S1 e1 e01
  refine ⟨p0, p1, planL.map V.str, planM.map V.str, rfl, rfl, e01, e1, by show 8 + 4 ≤ sizeLine; decide, fun p hp => ?_⟩
  have S2 := Rz.Same.new (o := .lst (planL.map V.str ++ planM.map V.str)) (S0.trans S1) hp
  have ep : upd H0' p (.lst (planL.map V.str ++ planM.map V.str)) p = some (.lst ((planTab.map planT).map V.str)) := by
    rw [upd_same, ← List.map_append, plan_texts]
  have hpn := (S0.trans S1).free hp
  have hdp : d ≠ p := apartNew hD.some hpn
  generalize upd H0' p (.lst (planL.map V.str ++ planM.map V.str)) = H1 at S2 ep
  clear S1 S0 e0 hp0 hp1 hp e1 e01
  have D1 := hD.same S2
  have B1 : But [d] H H1 := But.of S2
  refine ⟨_, rfl, d, 3, rfl, by decide, D1, fun H2 kd kd0 kd1 D2 B2 => ?_⟩
  have ep2 := B2.at ep (nin1 (Ne.symm hdp))
  have B02 := B1.trans B2
  refine ⟨_, rfl, rfl, _, rfl, ite2 (fun hk => ?_) (fun hk => ?_)⟩
  · refine ⟨_, rfl, _, rfl, _, rfl, lenS_go (SqL.of ep2) ?_⟩
    have ln : (((planTab.map planT).map V.str).length : Nat) = 12 := by rw [List.length_map, List.length_map]; rfl
    refine ⟨d, _, rfl, by rw [ln]; decide, D2, fun H3 r r0 r1 D3 B3 => ?_⟩
    obtain ⟨v, hv, hat⟩ := atI_in (xs := (planTab.map planT).map V.str) r0 r1
    obtain ⟨t, ht, rfl⟩ := List.mem_map.mp hv
    obtain ⟨rs, hrs, rfl⟩ := List.mem_map.mp ht
    have ep3 := B3.at ep2 (nin1 (Ne.symm hdp))
    have B03 := B02.trans B3
    clear hv ht ep2 ep D2 D1 B1 B2 B3 B02
    refine ⟨p, _, r, _, rfl, rfl, SqL.of ep3, hat, ?_⟩
    obtain ⟨a, b, c, ez⟩ : ∃ a b c, z.cps.toList = [a, b, c] := by
      have hl : z.cps.toList.length = 3 := hz3
      match e : z.cps.toList, hl with
      | [a, b, c], _ => exact ⟨a, b, c, rfl⟩
    have ha : a ∈ abc.cps.toList := hz a (by rw [ez]; simp)
    have hb : b ∈ abc.cps.toList := hz b (by rw [ez]; simp)
    have hc : c ∈ abc.cps.toList := hz c (by rw [ez]; simp)
    refine ⟨3, rfl, by decide, by decide, for_range (n := 3) (fun i σ H' => ∃ v5 : Option V, σ = [some (.ref d), some (.str z), some (.ref p), some (.int kd), some (.str (mapT (subs [a, b, c] i) (planT rs))), v5, none, none, none, none] ∧ H' = H3) ⟨none, by rw [show subs [a, b, c] 0 = fun e => e from rfl, mapT_id]; rfl, rfl⟩ ?_ ?_⟩
    · rintro i σ H4 hi ⟨v5, rfl, rfl⟩
      have gi : [a, b, c].getD i 97 ∈ abc.cps.toList := by
        match i, hi with
        | 0, _ => exact ha
        | 1, _ => exact hb
        | 2, _ => exact hc
      have a1 : atI ("012" : Str).cps.toList (0 + (i : Nat) : Int) = some (48 + i) := by
        match i, hi with
        | 0, _ => decide +kernel
        | 1, _ => decide +kernel
        | 2, _ => decide +kernel
      have a2 : atI z.cps.toList (0 + (i : Nat) : Int) = some ([a, b, c].getD i 97) := by
        rw [ez]
        match i, hi with
        | 0, _ => rfl
        | 1, _ => rfl
        | 2, _ => rfl
      have zl := plan_len rs hrs
      refine ⟨_, rfl, _, rfl, _, rfl, ("012" : Str), _, _, rfl, rfl, by show 3 ≤ sizeLine; decide, a1, _, rfl, _, rfl, z, _, _, rfl, rfl, by rw [hz3]; decide, a2, _, _, rfl, rfl, ?_, ?_, ?_⟩
      · have g97 := (abc_ge _ gi).1
        refine beq_eq_false_iff_ne.mpr fun e => ?_
        have e2 := congrArg (fun x : Str => x.cps.toList) e
        have e3 : 48 + i = [a, b, c].getD i 97 := by simpa using e2
        omega
      · rw [mapT_len]
        show _ + _ * 1 ≤ _
        omega
      · rw [replace_map, mapT_mapT]
        exact ⟨some (.int (0 + (i : Nat))), rfl, rfl⟩
    · rintro σ H4 ⟨v5, rfl, rfl⟩
      have gz : ∀ x ∈ [a, b, c], 97 ≤ x := fun x hx => (abc_ge x (hz x (by rw [ez]; exact hx))).1
      have gb := plan_good hrs ha hb hc
      have vb := plan_over hrs ez ha hb
      have em := mapT_plan (subs_out gz (e := 58) (.inr (by decide)) 3 (by decide)) (subs_out gz (e := 32) (.inl (by decide)) 3 (by decide)) rs
      obtain ⟨ne, l6, _⟩ := plan_digs rs hrs
      have zl := plan_len rs hrs
      have zm : (mapT (subs [a, b, c] 3) (planT rs)).length ≤ 20 := by rw [mapT_len]; exact zl
      generalize hqs : rs.map (mapR (subs [a, b, c] 3)) = qs at gb vb em
      have lq : qs.length ≤ 6 := by rw [← hqs, List.length_map]; exact l6
      have nq : qs ≠ [] := by rw [← hqs]; simpa using ne
      refine ⟨_, rfl, ⟨_, rfl⟩, _, _, rfl, rfl, rfl, by rw [sizeLine_eq]; omega, fun u hu => ?_⟩
      rw [em, planT_split gb nq]
      have Su := Rz.Same.new (o := .lst ((qs.map fun r => ruleT r.1 r.2).map V.str)) (Same.refl H4) hu
      have eu : upd H4 u (.lst ((qs.map fun r => ruleT r.1 r.2).map V.str)) u = some (.lst ((qs.map fun r => ruleT r.1 r.2).map V.str)) := upd_same
      generalize upd H4 u (.lst ((qs.map fun r => ruleT r.1 r.2).map V.str)) = H5 at Su eu
      refine ⟨u, rfl, ⟨_, SqL.of eu⟩, fun D hDn => lc_it walk_list (fun i H' => Same H5 H' ∧ SAt H' D (qs.take i)) ⟨Rz.Same.new (Same.refl H5) hDn, [], upd_same, .nil⟩ (fun i H' _ h => SqL.of (h.1 _ _ eu)) ?_ ?_⟩
      · rintro i x H6 H7 hi ⟨S6, ts, e6, P6⟩ ⟨rfl, hx⟩
        have hi2 : i < qs.length := by
          rw [List.length_map, List.length_map] at hi
          exact hi
        have ex : x = .str (ruleT qs[i].1 qs[i].2) := by
          rw [List.getElem?_map, List.getElem?_map, List.getElem?_eq_getElem hi2] at hx
          exact (Option.some.inj hx).symm
        subst ex
        have g := gb _ (List.getElem_mem hi2)
        have tl : (ruleT qs[i].1 qs[i].2).length ≤ 9 := ruleT_len (r := qs[i]) g
        refine ⟨rfl, yesT ⟨_, rfl, ⟨_, rfl⟩, _, _, rfl, rfl, rfl, by rw [sizeLine_eq]; omega, fun q1 hq1 => ?_⟩⟩
        rw [ruleT_split g]
        have SA := Rz.Same.new (o := .lst ([qs[i].1, qs[i].2].map V.str)) (Same.refl H7) hq1
        have eA : upd H7 q1 (.lst ([qs[i].1, qs[i].2].map V.str)) q1 = some (.lst ([qs[i].1, qs[i].2].map V.str)) := upd_same
        generalize upd H7 q1 (.lst ([qs[i].1, qs[i].2].map V.str)) = H8 at SA eA
        refine ⟨q1, _, _, .str qs[i].1, rfl, rfl, SqL.of eA, rfl, ?_⟩
        refine ⟨_, rfl, ⟨_, rfl⟩, _, _, rfl, rfl, rfl, by rw [sizeLine_eq]; omega, fun q2 hq2 => ?_⟩
        rw [ruleT_split g]
        have SB := Rz.Same.new (o := .lst ([qs[i].1, qs[i].2].map V.str)) SA hq2
        have eB : upd H8 q2 (.lst ([qs[i].1, qs[i].2].map V.str)) q2 = some (.lst ([qs[i].1, qs[i].2].map V.str)) := upd_same
        generalize upd H8 q2 (.lst ([qs[i].1, qs[i].2].map V.str)) = H9 at SB eB
        refine ⟨q2, _, _, .str qs[i].2, rfl, rfl, SqL.of eB, rfl, two, fun t htn => ?_⟩
        have SC := Rz.Same.new (o := .tup [.str qs[i].1, .str qs[i].2]) SB htn
        have ntD : t ≠ D := fun z => by
          rw [z, SB _ _ e6] at htn
          cases htn
        have lt := P6.len
        rw [List.length_take] at lt
        refine ⟨_, SC _ _ e6, by rw [List.length_map, sizeLine_eq]; omega, Rz.Same.upd (S6.trans SC) hDn, ts ++ [t], by rw [upd_same, List.map_append]; rfl, ?_⟩
        rw [List.take_add_one, List.getElem?_eq_getElem hi2]
        refine (P6.keep (Tups.upd (Tups.of SC) (not_tupL ⟨_, SC _ _ e6⟩))).append (.cons ?_ .nil)
        rw [upd_ne ntD, upd_same]
        rfl
      · rintro H6 ⟨S6, A6⟩
        have eq2 : ((qs.map fun r => ruleT r.1 r.2).map V.str).length = qs.length := by rw [List.length_map, List.length_map]
        rw [eq2, List.take_length] at A6
        have S46 := Su.trans S6
        have h4D : H4 D = none := Su.free hDn
        have ndD : D ≠ d := Ne.symm (apartNew D3.some h4D)
        exact k H6 D qs (D3.same S46) (B03.trans (But.of S46)) (B03.free (nin1 ndD) h4D) A6 gb vb lq
  · refine ⟨_, rfl, d, 4, rfl, by decide, D2, fun H3 n n0 n1 D3 B3 => ?_⟩
    have B03 := B02.trans B3
    refine ⟨fun σ H' => ∃ m : Int, σ = [some (.ref d), some (.str z), some (.ref p), some (.int kd), none, none, none, some (.int m), none, none] ∧ 0 ≤ m ∧ m ≤ 6 ∧ Dr H' d ∧ But [d] H H', ?_, ?_⟩
    · refine ⟨_, rfl, rfl, _, rfl, ite2 (fun h1 => ?_) (fun h1 => ?_)⟩
      · refine ⟨_, rfl, d, 4, rfl, by decide, D3, fun H4 q q0 q1 D4 B4 => ⟨rfl, _, rfl, ite2 (fun h2 => ?_) (fun h2 => ?_)⟩⟩
        · exact ⟨_, rfl, d, 3, rfl, by decide, D4, fun H5 r r0 r1 D5 B5 => ⟨_, _, rfl, rfl, 4 + r, rfl, by omega, by omega, D5, (B03.trans B4).trans B5⟩⟩
        · exact ⟨n, rfl, n0, by omega, D4, B03.trans B4⟩
      · exact iteF ⟨n, rfl, n0, by omega, D3, B03⟩
    rintro σ H4 ⟨m, rfl, m0, m6, D4, B4⟩
    refine ⟨by show 0 ≤ sizeLine; decide, fun l hl => ?_⟩
    have ndl : d ≠ l := apartNew D4.some hl
    have hlH : H l = none := B4.free (nin1 (Ne.symm ndl)) hl
    have D5 := D4.upd (o := .lst []) ndl
    have B5 : But [d] H (upd H4 l (.lst [])) := B4.upd (.inr hlH)
    have A5 : SAt (upd H4 l (.lst [])) l [] := ⟨[], upd_same, .nil⟩
    generalize upd H4 l (.lst []) = H5 at D5 A5 B5
    refine ⟨_, rfl, m, rfl, by omega, by omega, for_range (n := m.toNat) (fun i σ H' => ∃ (v5 v9 : Option V) (rs : List Ru), σ = [some (.ref d), some (.str z), some (.ref p), some (.int kd), none, v5, none, some (.int m), some (.ref l), v9] ∧ Dr H' d ∧ But [d] H H' ∧ SAt H' l rs ∧ GoodB rs ∧ OvB z rs ∧ rs.length = i)
      ⟨none, none, [], rfl, D5, B5, A5, (fun x hx => by cases hx), (fun x hx => by cases hx), rfl⟩ ?_ ?_⟩
    · rintro i σ H6 hi ⟨v5, v9, rs, rfl, D6, B6, A6, g6, o6, len6⟩
      refine ⟨_, rfl, _, rfl, d, z, 1, 4, rfl, by decide, by decide, by decide, by omega, by omega, D6, fun H7 x x1 x4 ox D7 B7 => ?_⟩
      have A7 := A6.but B7 (nin1 (Ne.symm ndl)) (drT D6 B7)
      obtain ⟨t7, e7, _⟩ := id A7
      refine ⟨_, rfl, .inl ⟨rfl, _, SqL.of e7⟩, _, rfl, _, rfl, _, rfl, d, z, 0, 4, rfl, by decide, by decide, by decide, by omega, by omega, D7, fun H8 y y1 y4 oy D8 B8 => ⟨two, fun q hq => ?_⟩⟩
      have A8 := A7.but B8 (nin1 (Ne.symm ndl)) (drT D7 B8)
      have gr := word_good hz ox oy (by omega) (by omega) (by omega)
      have S9 := Rz.Same.new (o := .tup [.str x, .str y]) (Same.refl H8) hq
      obtain ⟨ts, e8, P8⟩ := A8.same S9
      have lt := P8.len
      have D9 := D8.same S9
      have B9 : But [d] H (upd H8 q (.tup [.str x, .str y])) := ((B6.trans B7).trans B8).trans (But.of S9)
      have P9 : SdL (upd H8 q (.tup [.str x, .str y])) (ts ++ [q]) (rs ++ [(x, y)]) := SdL.append P8 (.cons upd_same .nil)
      generalize upd H8 q (.tup [.str x, .str y]) = H9 at e8 P8 D9 P9 B9
      refine ⟨l, _, .ref q, rfl, rfl, e8, by rw [List.length_map, sizeLine_eq]; omega, ?_⟩
      exact ⟨_, _, rs ++ [(x, y)], rfl, D9.upd ndl, B9.upd (.inr hlH), ⟨ts ++ [q], by rw [upd_same, List.map_append]; rfl, P9.keep (Tups.upd (Tups.of (Same.refl H9)) fun xs e => by rw [e8] at e; cases e)⟩, good_one g6 gr, (fun r hr => (List.mem_append.mp hr).elim (o6 r) fun q => by rw [List.mem_singleton.mp q]; exact ⟨ox, oy⟩), by rw [List.length_append, len6]; rfl⟩
    · rintro σ H6 ⟨v5, v9, rs, rfl, D6, B6, A6, g6, o6, len6⟩
      exact ⟨_, rfl, k H6 l rs D6 B6 hlH A6 g6 o6 (by omega)⟩
end
end Rz

namespace Rz
open PySem PySem.Spec PyProof.Rows L2
theorem in_ints {x : Int} {xs : List Int} : inV (.int x) (xs.map V.int) = decide (x ∈ xs) := by
  unfold inV
  rw [List.any_map]
  induction xs with
  | nil => rfl
  | cons y xs ih =>
    rw [List.any_cons, ih]
    show ((y == x) || decide (x ∈ xs)) = decide (x ∈ y :: xs)
    by_cases e : y = x
    · subst e
      simp
    · have e2 : ¬ x = y := fun z => e z.symm
      simp [e, e2]
theorem flat_ints (xs : List Int) : (xs.map V.int).all flatV = true := by
  rw [List.all_map, List.all_eq_true]
  exact fun _ _ => rfl
/-- so few different numbers below n -/
theorem few_below : ∀ (n : Nat) (xs : List Int), xs.Nodup → (∀ x ∈ xs, 0 ≤ x ∧ x < (n : Int)) → xs.length ≤ n
  | 0, [], _, _ => Nat.le_refl _
  | 0, x :: xs, _, h => by
    have := h x List.mem_cons_self
    omega
  | n + 1, xs, nd, h => by
    by_cases hm : ((n : Nat) : Int) ∈ xs
    · have q := few_below n (xs.erase (n : Int)) (nd.erase _) fun x hx => by
        have a := h x (List.mem_of_mem_erase hx)
        have b : x ≠ (n : Int) := fun e => by
          rw [e] at hx
          exact nd.not_mem_erase hx
        omega
      rw [List.length_erase_of_mem hm] at q
      omega
    · have q := few_below n xs nd fun x hx => by
        have a := h x hx
        have b : x ≠ (n : Int) := fun e => hm (by rw [← e]; exact hx)
        omega
      omega
def Clo (ps : List Lk) (fs : List Int) : Prop := ∀ p ∈ ps, p.1 ∈ fs → p.2 ∈ fs
def FW (ps : List Lk) (ss fs : List Int) : Prop := fs.Nodup ∧ (∀ x ∈ ss, x ∈ fs) ∧ (∀ x ∈ fs, Reach ps ss x) ∧ ∀ x ∈ fs, 0 ≤ x ∧ x < 7
theorem succs_of {ps : List Lk} {x y : Int} (h : y ∈ succs ps x) : (x, y) ∈ ps := by
  unfold succs at h
  obtain ⟨p, hp, rfl⟩ := List.mem_map.mp h
  obtain ⟨h1, h2⟩ := List.mem_filter.mp hp
  have e : p.1 = x := of_decide_eq_true h2
  rw [← e]
  exact h1
theorem in_succs {ps : List Lk} {x y : Int} (h : (x, y) ∈ ps) : y ∈ succs ps x := by
  unfold succs
  exact List.mem_map.mpr ⟨(x, y), List.mem_filter.mpr ⟨h, by simp⟩, rfl⟩
theorem clo_reach {ps : List Lk} {ss fs : List Int} (f : FW ps ss fs) (c : Clo ps fs) {x : Int} : x ∈ fs ↔ Reach ps ss x :=
  ⟨f.2.2.1 x, reach_all (P := fun x => x ∈ fs) f.2.1 fun x hx y hy => c _ (succs_of hy) hx⟩
def sp_law_led_from : Sp := fun vs H Q _ => ∃ (st ar : Addr) (ss : List Int) (ps : List Lk), vs = [.ref st, .ref ar] ∧ H st = some (.lst (ss.map V.int)) ∧ LkAt H ar ps ∧ ss.Nodup ∧ (∀ x ∈ ss, 0 ≤ x ∧ x < 7) ∧ (∀ p ∈ ps, 0 ≤ p.2 ∧ p.2 < 7) ∧
  ∀ H' (r : Addr) (fs : List Int), Same H H' → H r = none → H' r = some (.lst (fs.map V.int)) → fs.Nodup → (∀ x, x ∈ fs ↔ Reach ps ss x) → Q (.ref r) H'
section
variable {w : World} {K : PySem.W.Frag} {mg : Str → Option Value} {base : Heap}
theorem sc_law_led_from : FnScope N__law_led_from P__law_led_from (defScope s__law_led_from) := ⟨rfl, rfl, rfl, by decide +kernel, rfl, by decide +kernel, by decide +kernel⟩
theorem ok_law_led_from (T : Txt K mg) : FnOk prg w K mg base (L2.CX prg w) 1 T.f__law_led_from T.fd__law_led_from P__law_led_from sp_law_led_from := by
  refine Rz.Fun.okN T.F__law_led_from sc_law_led_from (fun vs H Q E h => ?_) (fun cdv A outer s H vs Q E hr h => ?_)
  · obtain ⟨st, ar, ss, ps, rfl, _⟩ := h
    rfl
  obtain ⟨st, ar, ss, ps, rfl, hst, ⟨ts, har, hL⟩, nds, hs, hp, k⟩ := h
  have nd := sc_law_led_from.nd
  refine ⟨_, (pss_cons (ps_set (i := 2) nd rfl (Or.inl rfl) (pe_callTy call_listS (by rfl) T.n_list (by decide +kernel) (pa_cons (pv 0) pa_nil)))
    (pss_cons (ps_for PassesOwn.never rfl (pi_range1 rfl T.n_range (pa_cons pe_int pa_nil)) (pg_name (i := 3) nd rfl (Or.inl rfl))
      (pss_one (ps_for PassesOwn.never rfl (pi_list (pv 1)) (pg_tup rfl (pgs_cons (pg_name (i := 4) nd rfl (Or.inl rfl)) (pgs_cons (pg_name (i := 5) nd rfl (Or.inl rfl)) pgs_nil)))
        (pss_one (ps_if (PW.pt (pw_and (pt_cmpR op_in_seq (pv 4) (pv 2) rfl) (pw_and1 (pt_cmpR op_notIn_seq (pv 5) (pv 2) rfl)))) (pss_one (ps_expr (pe_bm PySem.F.plainAttrs_list PySem.F.slot_list_append PySem.F.type_list_append mt_append (pv 2) (pa_cons (pv 5) pa_nil)))) pss_nil)))))
    (pss_one (ps_ret (pv 2))))), ?_⟩
  unfold rListS
  refine ⟨_, rfl, st, _, rfl, SqL.of hst, fun r hr0 => ?_⟩
  have S0 := Rz.Same.new (o := .lst (ss.map V.int)) (Same.refl H) hr0
  have e0 : upd H r (.lst (ss.map V.int)) r = some (.lst (ss.map V.int)) := upd_same
  have hrn : H r = none := hr0
  generalize upd H r (.lst (ss.map V.int)) = H0 at S0 e0 ⊢
  refine ⟨8, rfl, by decide, by decide, for_range (n := 8) (fun i σ H' => ∃ (v3 v4 v5 : Option V) (fs : List Int), σ = [some (.ref st), some (.ref ar), some (.ref r), v3, v4, v5] ∧ Same H H' ∧ H' r = some (.lst (fs.map V.int)) ∧ FW ps ss fs ∧ (Clo ps fs ∨ i ≤ fs.length))
    ⟨none, none, none, ss, rfl, S0, e0, ⟨nds, fun x h => h, fun x h => .start h, hs⟩, .inr (Nat.zero_le _)⟩ ?_ ?_⟩
  · rintro i σ H1 hi ⟨v3, v4, v5, fs, rfl, S1, e1, f1, c1⟩
    refine ⟨_, rfl, ar, rfl, ⟨_, SqL.of (S1 _ _ har)⟩, for_it walk_list (fun j σ H' => ∃ (v4 v5 : Option V) (gs : List Int), σ = [some (.ref st), some (.ref ar), some (.ref r), some (.int ((0 : Int) + (i : Nat))), v4, v5] ∧ Same H H' ∧ H' r = some (.lst (gs.map V.int)) ∧ FW ps ss gs ∧ (Clo ps fs → gs = fs) ∧ ((gs = fs ∧ ∀ p ∈ ps.take j, p.1 ∈ fs → p.2 ∈ fs) ∨ fs.length < gs.length))
      ⟨v4, v5, fs, rfl, S1, e1, f1, fun _ => rfl, .inl ⟨rfl, fun p hp => by simp at hp⟩⟩ (fun j σ H' _ ⟨_, _, _, _, S, _⟩ => SqL.of (S _ _ har)) ?_ ?_⟩
    · rintro j y σ H2 H3 hj ⟨v4, v5, gs, rfl, S2, e2, f2, c2, d2⟩ ⟨rfl, hy⟩
      obtain ⟨t, ht, rfl⟩ := refs_get hy
      obtain ⟨p, hpj, et⟩ := hL.get ht
      have inp : p ∈ ps := List.mem_of_getElem? hpj
      have tk1 : ps.take (j + 1) = ps.take j ++ [p] := by rw [List.take_add_one, hpj]; rfl
      have small := few_below 7 gs f2.1 f2.2.2.2
      refine ⟨t, _, rfl, SqT.of (S2 _ _ et), rfl, _, _, rfl, _, _, rfl, rfl, ?_⟩
      have stay : (p.1 ∈ gs → p.2 ∈ gs) → (gs = fs ∧ ∀ q ∈ ps.take (j + 1), q.1 ∈ fs → q.2 ∈ fs) ∨ fs.length < gs.length := fun h => d2.imp (fun ⟨a, b⟩ => ⟨a, fun q hq => by
        rw [tk1] at hq
        rcases List.mem_append.mp hq with z | z
        · exact b q z
        · rw [List.mem_singleton.mp z, ← a]
          exact h⟩) id
      refine ⟨_, rfl, _, rfl, r, _, rfl, .inl (SqL.of e2), rfl, flat_ints _, _, rfl, ?_⟩
      rw [if_neg (by decide), in_ints]
      refine ite2 (fun h1 => ?_) (fun h1 => ?_)
      · have m1 : p.1 ∈ gs := of_decide_eq_true h1
        refine ⟨_, rfl, _, rfl, r, _, rfl, .inl (SqL.of e2), rfl, flat_ints _, _, rfl, ?_⟩
        rw [if_pos rfl, in_ints]
        refine ite2 (fun h2 => ?_) (fun h2 => ?_)
        · have m2 : p.2 ∉ gs := by simpa using h2
          refine ⟨_, rfl, .inl ⟨rfl, _, SqL.of e2⟩, _, rfl, r, _, _, rfl, rfl, e2, by rw [List.length_map, sizeLine_eq]; omega, ?_⟩
          refine ⟨_, _, gs ++ [p.2], rfl, Rz.Same.upd S2 hrn, by rw [upd_same, List.map_append]; rfl, ⟨?_, fun x hx => List.mem_append_left _ (f2.2.1 x hx), fun x hx => ?_, fun x hx => ?_⟩, fun c => ?_, .inr ?_⟩
          · exact List.nodup_append.mpr ⟨f2.1, by simp, fun a ha b hb e => m2 (by rw [← List.mem_singleton.mp hb, ← e]; exact ha)⟩
          · rcases List.mem_append.mp hx with z | z
            · exact f2.2.2.1 x z
            · rw [List.mem_singleton.mp z]
              exact .step (f2.2.2.1 _ m1) (in_succs inp)
          · rcases List.mem_append.mp hx with z | z
            · exact f2.2.2.2 x z
            · rw [List.mem_singleton.mp z]
              exact hp p inp
          · have e3 := c2 c
            rw [e3] at m1 m2
            exact absurd (c p inp m1) m2
          · rw [List.length_append]
            show fs.length < gs.length + 1
            rcases d2 with ⟨a, _⟩ | a
            · rw [a]
              omega
            · omega
        · have m2 : p.2 ∈ gs := by simpa using h2
          exact ⟨_, _, gs, rfl, S2, e2, f2, c2, stay fun _ => m2⟩
      · have m1 : p.1 ∉ gs := by simpa using h1
        exact ⟨_, _, gs, rfl, S2, e2, f2, c2, stay fun z => absurd z m1⟩
    · rintro σ H2 ⟨v4, v5, gs, rfl, S2, e2, f2, c2, d2⟩
      rw [List.length_map, hL.len, List.take_length] at d2
      refine ⟨_, _, _, gs, rfl, S2, e2, f2, ?_⟩
      rcases d2 with ⟨a, b⟩ | a
      · exact .inl (by rw [a]; exact b)
      · rcases c1 with c | c
        · rw [c2 c] at a
          omega
        · exact .inr (by omega)
  · rintro σ H1 ⟨v3, v4, v5, fs, rfl, S1, e1, f1, c1⟩
    have small := few_below 7 fs f1.1 f1.2.2.2
    have c : Clo ps fs := c1.resolve_right (by omega)
    exact ⟨_, rfl, k H1 r fs S1 hrn e1 f1.1 fun x => clo_reach f1 c⟩
end
end Rz

namespace Rz
open PySem PySem.Spec PyProof.Rows L2
/-! ### lists of moves as data -/
abbrev dMv (m : Mv) : PyData := .tuple [.int m.1, .str m.2.1, .int m.2.2]
abbrev dMvs (ms : List Mv) : PyData := .list (ms.map dMv)
def GoodM (ms : List Mv) : Prop := ∀ m ∈ ms, PyData.strOk m.2.1 = true
theorem dmv_at {K : PySem.W.Frag} {H : Hp} {t : Addr} {m : Mv} (e : H t = some (.tup (mvV m))) : Dp K H (.ref t) (dMv m) := .tup (SqT.of e) (.cons (.int _) (.cons (.str _) (.cons (.int _) .nil)))
theorem dmvs_all {K : PySem.W.Frag} {H : Hp} : ∀ {ts : List Addr} {ms : List Mv}, MvL H ts ms → DpAll K H (ts.map V.ref) (ms.map dMv)
  | _, _, .nil => .nil
  | _, _, .cons e r => .cons (dmv_at e) (dmvs_all r)
theorem dmvs_at {K : PySem.W.Frag} {H : Hp} {l : Addr} {ms : List Mv} (h : MAt H l ms) : Dp K H (.ref l) (dMvs ms) := let ⟨_, h1, h2⟩ := h; .lst (SqL.of h1) (dmvs_all h2)
theorem dmvs_lay : ∀ {ms : List Mv}, GoodM ms → PyData.canLayAll0 (ms.map dMv) = true
  | [], _ => rfl
  | m :: ms, h => by
    have a : PyData.canLay0 (dMv m) = true := by
      show PyData.canLayAll0 [PyData.int m.1, PyData.str m.2.1, PyData.int m.2.2] = true
      simp [PyData.canLayAll0, PyData.canLay0, h m List.mem_cons_self]
    have b := dmvs_lay (ms := ms) fun q hq => h q (List.mem_cons_of_mem _ hq)
    simp only [List.map_cons, PyData.canLayAll0, a, b, Bool.and_self]
theorem dmvs_depth : ∀ ms : List Mv, PyData.depthAll (ms.map dMv) ≤ 1
  | [] => by simp [PyData.depthAll]
  | m :: ms => by
    have b := dmvs_depth ms
    simp only [List.map_cons, PyData.depthAll]
    have a : PyData.depth (dMv m) = 1 := by simp [PyData.depth, PyData.depthAll]
    rw [a]
    omega
theorem dmvs_deep (ms : List Mv) : PyData.depth (dMvs ms) ≤ 2 := by
  have := dmvs_depth ms
  show PyData.depthAll (ms.map dMv) + 1 ≤ 2
  omega
theorem dmvs_shaped {ms : List Mv} (h : GoodM ms) : SeqAt.shaped (dMvs ms) = true := by
  have d : PyData.depth (dMvs ms) ≤ 64 := Nat.le_trans (dmvs_deep ms) (by decide)
  show (PyData.canLayAll0 (ms.map dMv) && decide (PyData.depth (dMvs ms) ≤ 64)) = true
  rw [dmvs_lay h, decide_eq_true d]
  rfl
theorem dmv_eqv (p q : Mv) : PyData.eqv (dMv p) (dMv q) = decide (p = q) := by
  show PyData.eqvAll [PyData.int p.1, PyData.str p.2.1, PyData.int p.2.2] [PyData.int q.1, PyData.str q.2.1, PyData.int q.2.2] = _
  obtain ⟨a, x, n⟩ := p
  obtain ⟨b, y, m⟩ := q
  show ((a == b) && ((x == y) && ((n == m) && true))) = decide ((a, x, n) = (b, y, m))
  by_cases e1 : a = b
  · by_cases e2 : x = y
    · by_cases e3 : n = m
      · simp [e1, e2, e3]
      · simp [e1, e2, e3]
    · simp [e1, e2]
  · simp [e1]
theorem dmvs_eqvA : ∀ ps qs : List Mv, PyData.eqvAll (ps.map dMv) (qs.map dMv) = decide (ps = qs)
  | [], [] => rfl
  | [], _ :: _ => by simp [PyData.eqvAll]
  | _ :: _, [] => by simp [PyData.eqvAll]
  | p :: ps, q :: qs => by
    rw [List.map_cons, List.map_cons, PyData.eqvAll, dmvs_eqvA ps qs, dmv_eqv]
    simp
theorem dmvs_eqv (ps qs : List Mv) : PyData.eqv (dMvs ps) (dMvs qs) = decide (ps = qs) := by
  show PyData.eqvAll _ _ = _
  exact dmvs_eqvA ps qs
theorem small_ok {c : Nat} (h : c < 128) : PyData.strOk ⟨#[c]⟩ = true := by
  simp [PyData.strOk]
  omega
theorem str_ok {z : Str} (h : ∀ c ∈ z.cps.toList, c < 128) : PyData.strOk z = true := by
  unfold PyData.strOk
  rw [← Array.all_toList, List.all_eq_true]
  intro c hc
  have := h c hc
  simp
  omega
end Rz

namespace Rz
open PySem PySem.Spec PyProof.Rows L2
/-! ### good lots -/
structure LotOk (n : Int) (ls : List Int) (ms : List Mv) : Prop where
  st : okStates n ls ms
  ld : okLeads ms
  us : ∀ i : Nat, (i : Int) < n → useful ls ms i
  sl : SrtI ls ls
  sm : SrtM ms ms
abbrev Mc := Int × Nat × Int
def toM (x : Mc) : Mv := (x.1, ⟨#[x.2.1]⟩, x.2.2)
def CLt (a b : Mc) : Prop := a.1 < b.1 ∨ (a.1 = b.1 ∧ a.2.1 < b.2.1)
theorem clt_key {a b : Mc} (h : CLt a b) : kLt (mvK (toM b)) (mvK (toM a)) = false := by
  show lexLt itemOrd [.inl b.1, .inr [b.2.1], .inl b.2.2] [.inl a.1, .inr [a.2.1], .inl a.2.2] = false
  refine lex_false.mpr ?_
  rcases h with h | ⟨h1, h2⟩
  · exact ⟨decide_eq_false (by show ¬ b.1 < a.1; omega), .inl (decide_eq_true h)⟩
  · refine ⟨decide_eq_false (by show ¬ b.1 < a.1; omega), .inr (lex_false.mpr ⟨?_, .inl ?_⟩)⟩
    · refine decide_eq_false fun q => ?_
      have q : ([b.2.1] : List Nat) < [a.2.1] := q
      rw [List.cons_lt_cons_iff] at q
      rcases q with q | ⟨q, _⟩
      · omega
      · omega
    · refine decide_eq_true ?_
      show ([a.2.1] : List Nat) < [b.2.1]
      rw [List.cons_lt_cons_iff]
      exact .inl h2
theorem clt_one {xs : List Mc} (h : xs.Pairwise CLt) : ∀ a ∈ xs, ∀ b ∈ xs, a.1 = b.1 → a.2.1 = b.2.1 → a = b := by
  induction xs with
  | nil => intro a ha; cases ha
  | cons x xs ih =>
    obtain ⟨h1, h2⟩ := List.pairwise_cons.mp h
    intro a ha b hb e1 e2
    have no : ∀ y ∈ xs, ¬ (x.1 = y.1 ∧ x.2.1 = y.2.1) := fun y hy z => by
      rcases h1 y hy with q | q
      · omega
      · omega
    rcases List.mem_cons.mp ha with ea | ha <;> rcases List.mem_cons.mp hb with eb | hb
    · rw [ea, eb]
    · rw [ea] at e1 e2
      exact absurd ⟨e1, e2⟩ (no b hb)
    · rw [eb] at e1 e2
      exact absurd ⟨e1.symm, e2.symm⟩ (no a ha)
    · exact ih h2 a ha b hb e1 e2
theorem clt_srt {xs : List Mc} (h : xs.Pairwise CLt) : SrtM (xs.map toM) (xs.map toM) := by
  refine ⟨?_, ?_, fun m => Iff.rfl⟩
  · rw [List.map_map, List.pairwise_map]
    exact h.imp fun q => clt_key q
  · rw [List.Nodup, List.pairwise_map]
    refine h.imp fun {a b} q e => ?_
    have e1 : a.1 = b.1 := congrArg (fun m : Mv => m.1) e
    have e2 : (⟨#[a.2.1]⟩ : Str) = ⟨#[b.2.1]⟩ := congrArg (fun m : Mv => m.2.1) e
    have e3 : a.2.1 = b.2.1 := by
      have z := congrArg (fun s : Str => s.cps.toList) e2
      exact (List.cons.inj z).1
    rcases q with q | q
    · omega
    · omega
theorem clt_leads {xs : List Mc} (h : xs.Pairwise CLt) (hc : ∀ x ∈ xs, oddC x.2.1 = false) : okLeads (xs.map toM) := by
  refine ⟨fun m hm => ?_, fun a ha b hb e => ?_⟩
  · obtain ⟨x, hx, rfl⟩ := List.mem_map.mp hm
    exact sg_one (hc x hx)
  · obtain ⟨x, hx, rfl⟩ := List.mem_map.mp ha
    obtain ⟨y, hy, rfl⟩ := List.mem_map.mp hb
    unfold leadK toM at e
    simp only [List.cons.injEq, Sum.inl.injEq, Sum.inr.injEq, and_true] at e
    have e3 : x.2.1 = y.2.1 := by
      have z := congrArg (fun s : Str => s.cps.toList) e.2
      exact (List.cons.inj z).1
    rw [clt_one h x hx y hy e.1 e3]
/-- all texts -/
theorem every_ok {cs : List Nat} (hp : cs.Pairwise (· < ·)) (he : ∀ c ∈ cs, oddC c = false) : LotOk 1 [0] (everyM cs) := by
  have e : everyM cs = (cs.map fun c => ((0, c, 0) : Mc)).map toM := by
    unfold everyM
    rw [List.map_map]
    rfl
  have pw : (cs.map fun c => ((0, c, 0) : Mc)).Pairwise CLt := by
    rw [List.pairwise_map]
    exact hp.imp fun q => .inr ⟨rfl, q⟩
  refine ⟨every_states cs, every_leads he, every_useful cs, ⟨by simp, fun _ => Iff.rfl⟩, ?_⟩
  rw [e]
  exact clt_srt pw
/-- one text -/
def wordC (cs : List Nat) : Nat → List Mc
  | 0 => []
  | k + 1 => wordC cs k ++ [(((k : Nat) : Int), cs.getD k 0, ((k + 1 : Nat) : Int))]
theorem wordC_mem {cs : List Nat} : ∀ {k : Nat} {x : Mc}, x ∈ wordC cs k ↔ ∃ j, j < k ∧ x = (((j : Nat) : Int), cs.getD j 0, ((j + 1 : Nat) : Int))
  | 0, x => by simp [wordC]
  | k + 1, x => by
    unfold wordC
    rw [List.mem_append, wordC_mem, List.mem_singleton]
    constructor
    · rintro (⟨j, hj, e⟩ | e)
      · exact ⟨j, by omega, e⟩
      · exact ⟨k, by omega, e⟩
    · rintro ⟨j, hj, e⟩
      rcases Nat.lt_or_ge j k with h | h
      · exact .inl ⟨j, h, e⟩
      · obtain rfl : j = k := by omega
        exact .inr e
theorem wordC_pw (cs : List Nat) : ∀ k, (wordC cs k).Pairwise CLt
  | 0 => List.Pairwise.nil
  | k + 1 => by
    unfold wordC
    refine List.pairwise_append.mpr ⟨wordC_pw cs k, List.pairwise_singleton _ _, fun a ha b hb => ?_⟩
    obtain ⟨j, hj, rfl⟩ := wordC_mem.mp ha
    rw [List.mem_singleton.mp hb]
    exact .inl (by show (j : Int) < (k : Int); omega)
theorem wordC_len (cs : List Nat) : ∀ k, (wordC cs k).length = k
  | 0 => rfl
  | k + 1 => by
    unfold wordC
    rw [List.length_append, wordC_len cs k]
    rfl
theorem word_ok {cs : List Nat} {k : Nat} (h : k ≤ 39) (hl : k ≤ cs.length) (he : ∀ c ∈ cs, oddC c = false) : LotOk ((k : Int) + 1) [(k : Int)] ((wordC cs k).map toM) := by
  have mem : ∀ {m : Mv}, m ∈ (wordC cs k).map toM → ∃ j, j < k ∧ m = (((j : Nat) : Int), ⟨#[cs.getD j 0]⟩, ((j + 1 : Nat) : Int)) := fun {m} hm => by
    obtain ⟨x, hx, rfl⟩ := List.mem_map.mp hm
    obtain ⟨j, hj, rfl⟩ := wordC_mem.mp hx
    exact ⟨j, hj, rfl⟩
  have mem2 : ∀ {j}, j < k → ((((j : Nat) : Int), ⟨#[cs.getD j 0]⟩, ((j + 1 : Nat) : Int)) : Mv) ∈ (wordC cs k).map toM := fun {j} hj => List.mem_map.mpr ⟨_, wordC_mem.mpr ⟨j, hj, rfl⟩, rfl⟩
  refine ⟨⟨⟨by omega, by omega⟩, fun x hx => ?_, fun m hm => ?_⟩, clt_leads (wordC_pw cs k) fun x hx => ?_, fun i hi => ⟨?_, ?_⟩, ⟨by simp, fun _ => Iff.rfl⟩, clt_srt (wordC_pw cs k)⟩
  · rw [List.mem_singleton.mp hx]
    omega
  · obtain ⟨j, hj, rfl⟩ := mem hm
    exact ⟨⟨by show (0 : Int) ≤ (j : Nat); omega, by show ((j : Nat) : Int) < _; omega⟩, by show (0 : Int) ≤ ((j + 1 : Nat) : Int); omega, by show ((j + 1 : Nat) : Int) < _; omega⟩
  · obtain ⟨j, hj, rfl⟩ := wordC_mem.mp hx
    refine he _ ?_
    show cs.getD j 0 ∈ cs
    rw [List.getD_eq_getElem?_getD, List.getElem?_eq_getElem (by omega)]
    exact List.getElem_mem _
  · have go : ∀ i : Nat, i ≤ k → Reach (fwd ((wordC cs k).map toM)) [0] ((i : Nat) : Int) := by
      intro i
      induction i with
      | zero => exact fun _ => .start (by simp)
      | succ i ih => exact fun hi => .step (ih (by omega)) (in_succs (List.mem_map.mpr ⟨_, mem2 (show i < k by omega), rfl⟩))
    exact go i (by omega)
  · have go : ∀ j : Nat, j ≤ k → Reach (bwd ((wordC cs k).map toM)) [(k : Int)] (((k - j : Nat)) : Int) := by
      intro j
      induction j with
      | zero => exact fun _ => .start (by simp)
      | succ j ih =>
        intro hj
        have q := mem2 (show k - (j + 1) < k by omega)
        have e : k - (j + 1) + 1 = k - j := by omega
        rw [e] at q
        exact .step (ih (by omega)) (in_succs (List.mem_map.mpr ⟨_, q, rfl⟩))
    have q := go (k - i) (by omega)
    rwa [show k - (k - i) = i by omega] at q
/-! drawn states -/
structure Drawn (many : Nat) (m0 : List Mc) (l1 ks : List Int) : Prop where
  m1 : 1 ≤ many
  m3 : many ≤ 39
  pw : m0.Pairwise CLt
  rg : ∀ x ∈ m0, (0 ≤ x.1 ∧ x.1 < many) ∧ 0 ≤ x.2.2 ∧ x.2.2 < many
  ev : ∀ x ∈ m0, oddC x.2.1 = false
  ll : l1.Pairwise (· < ·)
  lr : ∀ x ∈ l1, 0 ≤ x ∧ x < many
  hit : ∃ x ∈ l1, Reach (fwd (m0.map toM)) [0] x
  kp : ks.Pairwise (· < ·)
  km : ∀ x, x ∈ ks ↔ (0 ≤ x ∧ x < many) ∧ Reach (fwd (m0.map toM)) [0] x ∧ Reach (bwd (m0.map toM)) l1 x
def kx (ks : List Int) (x : Int) : Int := ((ks.idxOf x : Nat) : Int)
def keepM (ks : List Int) (m0 : List Mc) : List Mc := (m0.filter fun x => decide (x.1 ∈ ks ∧ x.2.2 ∈ ks)).map fun x => (kx ks x.1, x.2.1, kx ks x.2.2)
def keepL (ks l1 : List Int) : List Int := (l1.filter fun x => decide (x ∈ ks)).map (kx ks)
theorem kx_lt {ks : List Int} {x : Int} (h : x ∈ ks) : 0 ≤ kx ks x ∧ kx ks x < ks.length := by
  have := List.idxOf_lt_length_of_mem h
  unfold kx
  omega
theorem kx_mono {ks : List Int} (kp : ks.Pairwise (· < ·)) {x y : Int} (hx : x ∈ ks) (hy : y ∈ ks) (h : x < y) : kx ks x < kx ks y := by
  have a := List.idxOf_lt_length_of_mem hx
  have b := List.idxOf_lt_length_of_mem hy
  have ea : ks[ks.idxOf x] = x := List.getElem_idxOf a
  have eb : ks[ks.idxOf y] = y := List.getElem_idxOf b
  unfold kx
  rcases Nat.lt_trichotomy (ks.idxOf x) (ks.idxOf y) with q | q | q
  · omega
  · have : ks[ks.idxOf x] = ks[ks.idxOf y] := by congr 1
    omega
  · have := List.pairwise_iff_getElem.mp kp _ _ b a q
    omega
section
variable {many : Nat} {m0 : List Mc} {l1 ks : List Int}
theorem reach_in {ps : List Lk} {ss : List Int} {P : Int → Prop} (h0 : ∀ x ∈ ss, P x) (h1 : ∀ p ∈ ps, P p.2) {x : Int} (r : Reach ps ss x) : P x := by
  cases r with
  | start h => exact h0 _ h
  | step _ h => exact h1 _ (succs_of h)
theorem fwd_mem {ms : List Mv} {x y : Int} : (x, y) ∈ fwd ms ↔ (y, x) ∈ bwd ms := by
  unfold fwd bwd
  rw [List.mem_map, List.mem_map]
  constructor
  · rintro ⟨m, hm, e⟩
    cases e
    exact ⟨m, hm, rfl⟩
  · rintro ⟨m, hm, e⟩
    cases e
    exact ⟨m, hm, rfl⟩
theorem back_to {ms : List Mv} {s : Int} {L : List Int} {x : Int} (r : Reach (fwd ms) [s] x) : Reach (bwd ms) L x → Reach (bwd ms) L s := by
  induction r with
  | start h =>
    rw [List.mem_singleton.mp h]
    exact id
  | step _ h ih => exact fun q => ih (.step q (in_succs (fwd_mem.mp (succs_of h))))
theorem fwd_of {x y : Int} (h : (x, y) ∈ fwd (m0.map toM)) : ∃ c, (x, c, y) ∈ m0 := by
  obtain ⟨m, hm, e⟩ := List.mem_map.mp h
  obtain ⟨z, hz, rfl⟩ := List.mem_map.mp hm
  cases e
  exact ⟨z.2.1, hz⟩
theorem of_fwd {x y : Int} {c : Nat} (h : (x, c, y) ∈ m0) : (x, y) ∈ fwd (m0.map toM) := List.mem_map.mpr ⟨_, List.mem_map.mpr ⟨_, h, rfl⟩, rfl⟩
theorem Drawn.zero (d : Drawn many m0 l1 ks) : (0 : Int) ∈ ks := by
  obtain ⟨x, hx, r⟩ := d.hit
  have := d.m1
  exact (d.km 0).mpr ⟨⟨by omega, by omega⟩, .start (by simp), back_to r (.start hx)⟩
theorem Drawn.kx0 (d : Drawn many m0 l1 ks) : kx ks 0 = 0 := by
  have z := d.zero
  have kp := d.kp
  have lo : ∀ x ∈ ks, 0 ≤ x := fun x hx => ((d.km x).mp hx).1.1
  unfold kx
  cases e : ks with
  | nil => rw [e] at z; cases z
  | cons a r =>
    rw [e] at z kp lo
    rcases List.mem_cons.mp z with q | q
    · rw [← q, List.idxOf_cons_self]
      rfl
    · have := (List.pairwise_cons.mp kp).1 0 q
      have := lo a List.mem_cons_self
      omega
theorem keepM_mem {x y : Int} {c : Nat} (h : (x, c, y) ∈ m0) (hx : x ∈ ks) (hy : y ∈ ks) : (kx ks x, c, kx ks y) ∈ keepM ks m0 :=
  List.mem_map.mpr ⟨_, List.mem_filter.mpr ⟨h, decide_eq_true ⟨hx, hy⟩⟩, rfl⟩
theorem keepM_of {z : Mc} (h : z ∈ keepM ks m0) : ∃ x c y, (x, c, y) ∈ m0 ∧ x ∈ ks ∧ y ∈ ks ∧ z = (kx ks x, c, kx ks y) := by
  obtain ⟨w, hw, rfl⟩ := List.mem_map.mp h
  obtain ⟨h1, h2⟩ := List.mem_filter.mp hw
  obtain ⟨h3, h4⟩ := of_decide_eq_true h2
  exact ⟨w.1, w.2.1, w.2.2, h1, h3, h4, rfl⟩
theorem Drawn.inR (d : Drawn many m0 l1 ks) {x : Int} (r : Reach (fwd (m0.map toM)) [0] x) : 0 ≤ x ∧ x < many :=
  reach_in (P := fun x => 0 ≤ x ∧ x < (many : Int)) (fun y hy => by
    have := d.m1
    rw [List.mem_singleton.mp hy]
    omega) (fun p hp => by
    obtain ⟨c, hc⟩ := fwd_of (x := p.1) (y := p.2) hp
    exact (d.rg _ hc).2) r
theorem Drawn.fwdR (d : Drawn many m0 l1 ks) {x : Int} (r : Reach (fwd (m0.map toM)) [0] x) : Reach (bwd (m0.map toM)) l1 x → Reach (fwd ((keepM ks m0).map toM)) [0] (kx ks x) := by
  induction r with
  | start h =>
    intro _
    rw [List.mem_singleton.mp h, d.kx0]
    exact .start (by simp)
  | @step x y r h ih =>
    intro q
    have xy := succs_of h
    have qx : Reach (bwd (m0.map toM)) l1 x := .step q (in_succs (fwd_mem.mp xy))
    obtain ⟨c, hc⟩ := fwd_of xy
    have kxm := (d.km x).mpr ⟨d.inR r, r, qx⟩
    have kym := (d.km y).mpr ⟨d.inR (.step r h), .step r h, q⟩
    exact .step (ih qx) (in_succs (of_fwd (keepM_mem hc kxm kym)))
theorem Drawn.bwdR (d : Drawn many m0 l1 ks) {x : Int} (r : Reach (bwd (m0.map toM)) l1 x) : Reach (fwd (m0.map toM)) [0] x → Reach (bwd ((keepM ks m0).map toM)) (keepL ks l1) (kx ks x) := by
  induction r with
  | @start x h =>
    intro q
    have kxm := (d.km x).mpr ⟨d.inR q, q, .start h⟩
    exact .start (List.mem_map.mpr ⟨x, List.mem_filter.mpr ⟨h, decide_eq_true kxm⟩, rfl⟩)
  | @step x y r h ih =>
    intro q
    have yx := fwd_mem.mpr (succs_of h)
    have qx : Reach (fwd (m0.map toM)) [0] x := .step q (in_succs yx)
    obtain ⟨c, hc⟩ := fwd_of yx
    have kxm := (d.km x).mpr ⟨d.inR qx, qx, r⟩
    have kym := (d.km y).mpr ⟨d.inR q, q, .step r h⟩
    exact .step (ih qx) (in_succs (fwd_mem.mp (of_fwd (keepM_mem hc kym kxm))))
theorem Drawn.kpw (d : Drawn many m0 l1 ks) : (keepM ks m0).Pairwise CLt := by
  unfold keepM
  rw [List.pairwise_map]
  refine List.Pairwise.imp_of_mem (fun {a b} ha hb q => ?_) (d.pw.filter _)
  have a1 := of_decide_eq_true (List.mem_filter.mp ha).2
  have b1 := of_decide_eq_true (List.mem_filter.mp hb).2
  rcases q with q | ⟨q1, q2⟩
  · exact .inl (kx_mono d.kp a1.1 b1.1 q)
  · exact .inr ⟨by show kx ks a.1 = kx ks b.1; rw [q1], q2⟩
theorem Drawn.size (d : Drawn many m0 l1 ks) : ks.length ≤ many := few_below many ks (d.kp.imp fun q => by omega) fun x hx => ((d.km x).mp hx).1
theorem Drawn.ok (d : Drawn many m0 l1 ks) : LotOk ks.length (keepL ks l1) ((keepM ks m0).map toM) := by
  have z := List.length_pos_of_mem d.zero
  have sz := d.size
  have m3 := d.m3
  refine ⟨⟨⟨by omega, by omega⟩, fun x hx => ?_, fun m hm => ?_⟩, clt_leads d.kpw fun x hx => ?_, fun i hi => ?_, ⟨?_, fun _ => Iff.rfl⟩, clt_srt d.kpw⟩
  · obtain ⟨y, hy, rfl⟩ := List.mem_map.mp hx
    exact kx_lt (of_decide_eq_true (List.mem_filter.mp hy).2)
  · obtain ⟨w, hw, rfl⟩ := List.mem_map.mp hm
    obtain ⟨x, c, y, h1, h2, h3, rfl⟩ := keepM_of hw
    exact ⟨kx_lt h2, kx_lt h3⟩
  · obtain ⟨a, c, b, h1, h2, h3, rfl⟩ := keepM_of hx
    exact d.ev (a, c, b) h1
  · have hi2 : i < ks.length := by omega
    have nd : ks.Nodup := d.kp.imp fun q => by omega
    have e : kx ks ks[i] = i := by
      unfold kx
      have a := List.idxOf_lt_length_of_mem (List.getElem_mem hi2)
      have b : ks[ks.idxOf ks[i]] = ks[i] := List.getElem_idxOf a
      have := (List.getElem_inj nd).mp b
      omega
    obtain ⟨_, r1, r2⟩ := (d.km ks[i]).mp (List.getElem_mem hi2)
    rw [← e]
    exact ⟨d.fwdR r1 r2, d.bwdR r2 r1⟩
  · unfold keepL
    rw [List.pairwise_map]
    exact List.Pairwise.imp_of_mem (fun {a b} ha hb q => kx_mono d.kp (of_decide_eq_true (List.mem_filter.mp ha).2) (of_decide_eq_true (List.mem_filter.mp hb).2) q) (d.ll.filter _)
end
end Rz

namespace Rz
open PySem PySem.Spec PyProof.Rows L2
/-- one move more -/
theorem mat_push {G : Hp} {D u : Addr} {ts : List Addr} {ms : List Mv} {m : Mv} (e : G D = some (.lst (ts.map V.ref))) (P : MvL G ts ms) (hu : G u = none) :
    MAt (upd (upd G u (.tup (mvV m))) D (.lst (ts.map V.ref ++ [.ref u]))) D (ms ++ [m]) := by
  have nuD : u ≠ D := fun q => by rw [q, e] at hu; cases hu
  have S := Rz.Same.new (o := .tup (mvV m)) (Same.refl G) hu
  have T : Tups G (upd (upd G u (.tup (mvV m))) D (.lst (ts.map V.ref ++ [.ref u]))) := Tups.upd (Tups.of S) (not_tupL ⟨_, S _ _ e⟩)
  refine ⟨ts ++ [u], by rw [upd_same, List.map_append]; rfl, (P.keep T).append (.cons (by rw [upd_ne nuD, upd_same]) .nil)⟩
theorem lkat_push {G : Hp} {D u : Addr} {ts : List Addr} {ps : List Lk} {p : Lk} (e : G D = some (.lst (ts.map V.ref))) (P : LkL G ts ps) (hu : G u = none) :
    LkAt (upd (upd G u (.tup [.int p.1, .int p.2])) D (.lst (ts.map V.ref ++ [.ref u]))) D (ps ++ [p]) := by
  have nuD : u ≠ D := fun q => by rw [q, e] at hu; cases hu
  have S := Rz.Same.new (o := .tup [.int p.1, .int p.2]) (Same.refl G) hu
  have T : Tups G (upd (upd G u (.tup [.int p.1, .int p.2])) D (.lst (ts.map V.ref ++ [.ref u]))) := Tups.upd (Tups.of S) (not_tupL ⟨_, S _ _ e⟩)
  refine ⟨ts ++ [u], by rw [upd_same, List.map_append]; rfl, (P.keep T).append (.cons (by rw [upd_ne nuD, upd_same]) .nil)⟩
theorem But.free1 {H H' : Hp} {d x : Addr} (B : But [d] H H') (D : Dr H' d) (h : H' x = none) : H x = none := B.free (fun z => by
  obtain ⟨ns, e, _⟩ := D
  rw [List.mem_singleton.mp z, e] at h
  cases h) h
theorem sort_signs {K : PySem.W.Frag} {σ : L2.St} {G : Hp} {z : Str} {Q : VK} (hσ : σ[1]? = some (some (.str z))) (hz : z.length < 64) (nd : z.cps.toList.Nodup)
    (k : ∀ (G' : Hp) (q : Addr) (ds : List Nat), Same G G' → G q = none → G' q = some (.lst ((sgs ds).map V.str)) → ds.Perm z.cps.toList → ds.Pairwise (· < ·) → Q (.ref q) G') : tCB (rSortedS K) (tCons (tCB rListTx (tCons (tVar 1) tNil)) tNil) σ G Q := by
  refine ⟨_, hσ, z, rfl, by rw [sizeLine_eq]; omega, fun p hp => ?_⟩
  have S1 := Rz.Same.new (o := .lst ((sgs z.cps.toList).map V.str)) (Same.refl G) hp
  refine ⟨p, sgs z.cps.toList, rfl, SqL.of upd_same, by unfold sgs; rw [List.length_map]; exact hz, fun ys q pm hs hq => ?_⟩
  have S2 := Rz.Same.new (o := .lst (ys.map V.str)) (Same.refl (upd G p (.lst ((sgs z.cps.toList).map V.str)))) hq
  obtain ⟨ds, rfl, pd⟩ := sgs_perm pm
  exact k _ q ds (S1.trans S2) (S1.free hq) upd_same pd (sgs_rise hs (pd.nodup_iff.mpr nd))
theorem sgs_get {ds : List Nat} {i : Nat} {y : V} (h : ((sgs ds).map V.str)[i]? = some y) : ∃ c, ds[i]? = some c ∧ y = .str ⟨#[c]⟩ := by
  unfold sgs at h
  rw [List.map_map, List.getElem?_map] at h
  cases e : ds[i]? with
  | none => rw [e] at h; cases h
  | some c =>
    rw [e] at h
    cases h
    exact ⟨c, rfl, rfl⟩
/-- links out of the moves -/
theorem links_lc {K : PySem.W.Frag} {G : Hp} {lm : Addr} {ts : List Addr} {ms : List Mv} {Q : VK} {v0 v1 v2 v3 v4 v5 v6 v8 v9 v10 v11 v12 v13 v14 v15 : Option V} {a b : Int} (f : Mv → Lk) (em : G lm = some (.lst (ts.map V.ref))) (hM : MvL G ts ms) (few : ms.length ≤ 1000)
    (ha : ∀ m : Mv, atI (mvV m) a = some (.int (f m).1)) (hb : ∀ m : Mv, atI (mvV m) b = some (.int (f m).2)) (k : ∀ (G' : Hp) (D : Addr), Same G G' → G D = none → LkAt G' D (ms.map f) → Q (.ref D) G') :
    tLc (iList K (tVar 7)) (gName 11) tYes (tTup (tCons (tOp (rIxT K) (tVar 11) (tC (.int a))) (tCons (tOp (rIxT K) (tVar 11) (tC (.int b))) tNil))) [11] [v0, v1, v2, v3, v4, v5, v6, some (.ref lm), v8, v9, v10, v11, v12, v13, v14, v15] G Q := by
  refine ⟨_, rfl, lm, rfl, ⟨_, SqL.of em⟩, fun D hD => lc_it walk_list (fun i H' => Same G H' ∧ LkAt H' D ((ms.take i).map f)) ⟨Rz.Same.new (Same.refl _) hD, [], upd_same, .nil⟩ (fun i H' _ h => SqL.of (h.1 _ _ em)) ?_ ?_⟩
  · rintro i y G1 G2 hi ⟨S, us, e, P⟩ ⟨rfl, hy⟩
    obtain ⟨t, ht, rfl⟩ := refs_get hy
    obtain ⟨m, hm, et⟩ := hM.get ht
    have im := (List.getElem?_eq_some_iff.mp hm).1
    have lus := P.len
    rw [List.length_map, List.length_take] at lus
    refine ⟨rfl, yesT ⟨_, rfl, t, _, a, _, rfl, rfl, SqT.of (S _ _ et), ha m, _, rfl, t, _, b, _, rfl, rfl, SqT.of (S _ _ et), hb m, by show 2 ≤ sizeLine; decide, fun u hu => ?_⟩⟩
    have S2 := Rz.Same.new (o := .tup [.int (f m).1, .int (f m).2]) (Same.refl G2) hu
    refine ⟨_, S2 _ _ e, by rw [List.length_map, sizeLine_eq]; omega, Rz.Same.upd (S.trans S2) hD, ?_⟩
    have L := lkat_push (p := f m) e P hu
    rw [List.take_add_one, hm, List.map_append]
    exact L
  · rintro G1 ⟨S, L⟩
    rw [List.length_map, hM.len, List.take_length] at L
    exact k G1 D S hD L
theorem index_ints {K : PySem.W.Frag} {kp : Addr} {G : Hp} {ks : List Int} {x : Int} {Q : VK} (e : G kp = some (.lst (ks.map V.int))) (h : x ∈ ks) (q : Q (.int (kx ks x)) G) : rIndex K (.ref kp) [.int x] G Q := by
  have a := List.idxOf_lt_length_of_mem h
  have b : ks[ks.idxOf x] = x := List.getElem_idxOf a
  refine ⟨kp, _, .int x, ks.idxOf x, .int x, rfl, rfl, SqL.of e, rfl, flat_ints ks, ?_, ?_, fun m w hm hw => ?_, q⟩
  · rw [List.getElem?_map, List.getElem?_eq_getElem a, b]
    rfl
  · show (x == x) = true
    simp
  · obtain ⟨y, hy, rfl⟩ := mapi_get hw
    show (y == x) = false
    have l := (List.getElem?_eq_some_iff.mp hy).1
    have ne := List.not_of_lt_findIdx (p := fun z => z == x) (xs := ks) (i := m) hm
    rw [List.getElem?_eq_getElem l] at hy
    rw [← Option.some.inj hy]
    simpa using ne
theorem index_args {K : PySem.W.Frag} {kp : Addr} {σ : L2.St} {G : Hp} {ks : List Int} {x : Int} {Q : VK} (e : G kp = some (.lst (ks.map V.int))) (h : x ∈ ks) (q : Q (.int (kx ks x)) G) : tNil σ G fun xs H2 => rIndex K (.ref kp) (V.int x :: xs) H2 Q := index_ints e h q
def sp_law_lot_of : Sp := fun vs H Q _ => ∃ (d : Addr) (z : Str), vs = [.ref d, .str z] ∧ Dr H d ∧ 1 ≤ z.length ∧ z.length ≤ 4 ∧ Over abc z ∧ z.cps.toList.Nodup ∧
  ∀ H' (t l m : Addr) (n : Int) (ls : List Int) (ms : List Mv), H' t = some (.tup [.int n, .ref l, .ref m]) → H' l = some (.lst (ls.map V.int)) → MAt H' m ms → LotOk n ls ms → n ≤ 7 → ls.length ≤ 7 → ms.length ≤ 12 → (∀ x ∈ ms, ∃ c ∈ z.cps.toList, x.2.1 = ⟨#[c]⟩) → H t = none → H l = none → H m = none → Dr H' d → But [d] H H' → Q (.ref t) H'
section
variable {w : World} {K : PySem.W.Frag} {mg : Str → Option Value} {base : Heap}
theorem sc_law_lot_of : FnScope N__law_lot_of P__law_lot_of (defScope s__law_lot_of) := ⟨rfl, rfl, rfl, by decide +kernel, rfl, by decide +kernel, by decide +kernel⟩
theorem ok_law_lot_of (T : Txt K mg) : FnOk prg w K mg base (L2.CX prg w) 4 T.f__law_lot_of T.fd__law_lot_of P__law_lot_of sp_law_lot_of := by
  refine Rz.Fun.okN T.F__law_lot_of sc_law_lot_of (fun vs H Q E h => ?_) (fun cdv A outer s H vs Q E hr h => ?_)
  · obtain ⟨d, z, rfl, _⟩ := h
    rfl
  obtain ⟨d, z, rfl, hD, hz1, hz4, ho, hn, k⟩ := h
  have nd := sc_law_lot_of.nd
  refine ⟨_, (pss_cons (ps_set (i := 2) nd rfl (Or.inl rfl) (pe_fn (ok_law_pick T) (hr.mono (by decide)) (by rfl) T.m__law_pick T.F__law_pick.kp T.b__law_pick .nil (fun _ => atN _) (pa_cons (pv 0) (pa_cons pe_int pa_nil))))
    (pss_cons (ps_if (pt_cmpR op_eq (pv 2) pe_int (nomark _)) (pss_one (ps_ret (pe_tup (pa_cons pe_int (pa_cons (pe_lst (pa_cons pe_int pa_nil)) (pa_cons (pe_lc (own := [("_law_sign", 3)]) (g := (gName 3)) (tt := tYes) rfl nd (pi_list (pe_callB cr_sortedS (by rfl) T.n_sorted (by decide +kernel) (pa_cons (pe_callTy (cr_listTx (by rfl)) (by rfl) T.n_list (by decide +kernel) (pa_cons (pv 1) pa_nil)) pa_nil))) (blkOk_by (N := N__law_lot_of) (sc := defScope s__law_lot_of) (by decide +kernel)) (fun _ _ _ _ _ => (pg_name (i := 3) nd rfl (Or.inl rfl))) (fun _ _ _ _ _ => pts_nil) (fun _ _ _ _ _ => (pe_tup (pa_cons pe_int (pa_cons (pv 3) (pa_cons pe_int pa_nil)))))) pa_nil)))))) pss_nil)
    (pss_cons (ps_if (pt_cmpR op_eq (pv 2) pe_int (nomark _)) (pss_cons (ps_set (i := 4) nd rfl (Or.inr rfl) (pe_fn (ok_law_word_of T) (hr.mono (by decide)) (by rfl) T.m__law_word_of T.F__law_word_of.kp T.b__law_word_of .nil (fun _ => atN _) (pa_cons (pv 0) (pa_cons (pv 1) (pa_cons pe_int (pa_cons pe_int pa_nil))))))
      (pss_one (ps_ret (pe_tup (pa_cons (pe_op op_add (pe_callB call_len_str (by rfl) T.n_len PySem.boot_len (pa_cons (pv 4) pa_nil)) pe_int) (pa_cons (pe_lst (pa_cons (pe_callB call_len_str (by rfl) T.n_len PySem.boot_len (pa_cons (pv 4) pa_nil)) pa_nil)) (pa_cons (pe_lc (own := [("_law_k", 5)]) (g := (gName 5)) (tt := tYes) rfl nd (pi_range1 rfl T.n_range (pa_cons (pe_callB call_len_str (by rfl) T.n_len PySem.boot_len (pa_cons (pv 4) pa_nil)) pa_nil)) (blkOk_by (N := N__law_lot_of) (sc := defScope s__law_lot_of) (by decide +kernel)) (fun _ _ _ _ _ => (pg_name (i := 5) nd rfl (Or.inl rfl))) (fun _ _ _ _ _ => pts_nil) (fun _ _ _ _ _ => (pe_tup (pa_cons (pv 5) (pa_cons (pe_ix ix_str (pv 4) (pv 5) (fun _ _ => rfl)) (pa_cons (pe_op op_add (pv 5) pe_int) pa_nil)))))) pa_nil))))))) pss_nil)
    (pss_cons (ps_set (i := 6) nd rfl (Or.inl rfl) (pe_op op_add pe_int (pe_fn (ok_law_pick T) (hr.mono (by decide)) (by rfl) T.m__law_pick T.F__law_pick.kp T.b__law_pick .nil (fun _ => atN _) (pa_cons (pv 0) (pa_cons pe_int pa_nil)))))
    (pss_cons (ps_set (i := 7) nd rfl (Or.inl rfl) (pe_lst pa_nil))
    (pss_cons (ps_for PassesOwn.never rfl (pi_range1 rfl T.n_range (pa_cons (pv 6) pa_nil)) (pg_name (i := 8) nd rfl (Or.inl rfl))
      (pss_one (ps_for PassesOwn.never rfl (pi_list (pe_callB cr_sortedS (by rfl) T.n_sorted (by decide +kernel) (pa_cons (pe_callTy (cr_listTx (by rfl)) (by rfl) T.n_list (by decide +kernel) (pa_cons (pv 1) pa_nil)) pa_nil))) (pg_name (i := 3) nd rfl (Or.inl rfl))
        (pss_cons (ps_set (i := 9) nd rfl (Or.inl rfl) (pe_fn (ok_law_pick T) (hr.mono (by decide)) (by rfl) T.m__law_pick T.F__law_pick.kp T.b__law_pick .nil (fun _ => atN _) (pa_cons (pv 0) (pa_cons (pe_op op_add (pv 6) pe_int) pa_nil))))
        (pss_one (ps_if (pt_cmpR op_lt (pv 9) (pv 6) (nomark _)) (pss_one (ps_expr (pe_bm PySem.F.plainAttrs_list PySem.F.slot_list_append PySem.F.type_list_append mt_append (pv 7) (pa_cons (pe_tup (pa_cons (pv 8) (pa_cons (pv 3) (pa_cons (pv 9) pa_nil)))) pa_nil)))) pss_nil))))))
    (pss_cons (ps_setLc (i := 10) (own := [("_law_state", 8)]) (g := (gName 8)) (tt := _) rfl nd rfl rfl (sw_true rfl rfl rfl (by decide +kernel)) (pi_range1 rfl T.n_range (pa_cons (pv 6) pa_nil)) (blkOk_by (N := N__law_lot_of) (sc := defScope s__law_lot_of) (by decide +kernel)) (fun _ _ _ _ _ => (pg_name (i := 8) nd rfl (Or.inl rfl))) (fun _ _ _ _ _ => (pts_one (pt_cmpR op_eq (pe_fn (ok_law_pick T) (hr.mono (by decide)) (by rfl) T.m__law_pick T.F__law_pick.kp T.b__law_pick .nil (fun _ => atN _) (pa_cons (pv 0) (pa_cons pe_int pa_nil))) pe_int (nomark _)))) (fun _ _ _ _ _ => (pv 8)))
    (pss_cons (ps_set (i := 12) nd rfl (Or.inr rfl) (pe_fn (ok_law_led_from T) (hr.mono (by decide)) (by rfl) T.m__law_led_from T.F__law_led_from.kp T.b__law_led_from .nil (fun _ => atN _) (pa_cons (pe_lst (pa_cons pe_int pa_nil)) (pa_cons (pe_lc (own := [("_law_move", 11)]) (g := (gName 11)) (tt := tYes) rfl nd (pi_list (pv 7)) (blkOk_by (N := N__law_lot_of) (sc := defScope s__law_lot_of) (by decide +kernel)) (fun _ _ _ _ _ => (pg_name (i := 11) nd rfl (Or.inl rfl))) (fun _ _ _ _ _ => pts_nil) (fun _ _ _ _ _ => (pe_tup (pa_cons (pe_ix (show IxR _ (rIxT K) from ix_tup) (pv 11) pe_int (fun _ _ => rfl)) (pa_cons (pe_ix (show IxR _ (rIxT K) from ix_tup) (pv 11) pe_int (fun _ _ => rfl)) pa_nil))))) pa_nil))))
    (C8.pss_cut (ps_if (pt_cmpR (op_eqD hr.units) (pe_lc (own := [("_law_state", 8)]) (g := (gName 8)) (tt := _) rfl nd (pi_list (pv 10)) (blkOk_by (N := N__law_lot_of) (sc := defScope s__law_lot_of) (by decide +kernel)) (fun _ _ _ _ _ => (pg_name (i := 8) nd rfl (Or.inl rfl))) (fun _ _ _ _ _ => (pts_one (pt_cmpR (show OpR _ (compareOp .In) (rIn K false) from op_in_seq) (pv 8) (pv 12) rfl))) (fun _ _ _ _ _ => (pv 8))) (pe_lst pa_nil) (nomark _)) (pss_one (ps_set (i := 10) nd rfl (Or.inl rfl) (pe_lst (pa_cons pe_int pa_nil)))) pss_nil)
    (pss_cons (ps_set (i := 13) nd rfl (Or.inr rfl) (pe_fn (ok_law_led_from T) (hr.mono (by decide)) (by rfl) T.m__law_led_from T.F__law_led_from.kp T.b__law_led_from .nil (fun _ => atN _) (pa_cons (pv 10) (pa_cons (pe_lc (own := [("_law_move", 11)]) (g := (gName 11)) (tt := tYes) rfl nd (pi_list (pv 7)) (blkOk_by (N := N__law_lot_of) (sc := defScope s__law_lot_of) (by decide +kernel)) (fun _ _ _ _ _ => (pg_name (i := 11) nd rfl (Or.inl rfl))) (fun _ _ _ _ _ => pts_nil) (fun _ _ _ _ _ => (pe_tup (pa_cons (pe_ix (show IxR _ (rIxT K) from ix_tup) (pv 11) pe_int (fun _ _ => rfl)) (pa_cons (pe_ix (show IxR _ (rIxT K) from ix_tup) (pv 11) pe_int (fun _ _ => rfl)) pa_nil))))) pa_nil))))
    (pss_cons (ps_set (i := 14) nd rfl (Or.inr rfl) (pe_lc (own := [("_law_state", 8)]) (g := (gName 8)) (tt := _) rfl nd (pi_range1 rfl T.n_range (pa_cons (pv 6) pa_nil)) (blkOk_by (N := N__law_lot_of) (sc := defScope s__law_lot_of) (by decide +kernel)) (fun _ _ _ _ _ => (pg_name (i := 8) nd rfl (Or.inl rfl))) (fun _ _ _ _ _ => (pts_one (PW.pt (pw_and (pt_cmpR (show OpR _ (compareOp .In) (rIn K false) from op_in_seq) (pv 8) (pv 12) rfl) (pw_and1 (pt_cmpR (show OpR _ (compareOp .In) (rIn K false) from op_in_seq) (pv 8) (pv 13) rfl)))))) (fun _ _ _ _ _ => (pv 8))))
    (pss_cons (ps_setLc (i := 15) (own := [("_law_move", 11)]) (g := (gName 11)) (tt := _) rfl nd rfl rfl (sw_true rfl rfl rfl (by decide +kernel)) (pi_list (pv 7)) (blkOk_by (N := N__law_lot_of) (sc := defScope s__law_lot_of) (by decide +kernel)) (fun _ _ _ _ _ => (pg_name (i := 11) nd rfl (Or.inl rfl))) (fun _ _ _ _ _ => (pts_one (PW.pt (pw_and (pt_cmpR (show OpR _ (compareOp .In) (rIn K false) from op_in_seq) (pe_ix (show IxR _ (rIxT K) from ix_tup) (pv 11) pe_int (fun _ _ => rfl)) (pv 14) rfl) (pw_and1 (pt_cmpR (show OpR _ (compareOp .In) (rIn K false) from op_in_seq) (pe_ix (show IxR _ (rIxT K) from ix_tup) (pv 11) pe_int (fun _ _ => rfl)) (pv 14) rfl)))))) (fun _ _ _ _ _ => (pv 11)))
    (pss_cons (ps_setLc (i := 7) (own := [("_law_move", 11)]) (g := (gName 11)) (tt := tYes) rfl nd rfl rfl (sw_true rfl rfl rfl (by decide +kernel)) (pi_list (pv 15)) (blkOk_by (N := N__law_lot_of) (sc := defScope s__law_lot_of) (by decide +kernel)) (fun _ _ _ _ _ => (pg_name (i := 11) nd rfl (Or.inl rfl))) (fun _ _ _ _ _ => pts_nil) (fun _ _ _ _ _ => (pe_tup (pa_cons (show PE _ _ (tBM K "list" (rIndex K) (tVar 14) (tCons (tOp (rIxT K) (tVar 11) (tC (.int 0))) tNil)) from pe_bm PySem.F.plainAttrs_list PySem.F.slot_list_index PySem.F.type_list_index mt_index (pv 14) (pa_cons (pe_ix (show IxR _ (rIxT K) from ix_tup) (pv 11) pe_int (fun _ _ => rfl)) pa_nil)) (pa_cons (pe_ix (show IxR _ (rIxT K) from ix_tup) (pv 11) pe_int (fun _ _ => rfl)) (pa_cons (show PE _ _ (tBM K "list" (rIndex K) (tVar 14) (tCons (tOp (rIxT K) (tVar 11) (tC (.int 2))) tNil)) from pe_bm PySem.F.plainAttrs_list PySem.F.slot_list_index PySem.F.type_list_index mt_index (pv 14) (pa_cons (pe_ix (show IxR _ (rIxT K) from ix_tup) (pv 11) pe_int (fun _ _ => rfl)) pa_nil)) pa_nil))))))
    (pss_one (ps_ret (pe_tup (pa_cons (pe_callB call_lenS (by rfl) T.n_len PySem.boot_len (pa_cons (pv 14) pa_nil)) (pa_cons (pe_lc (own := [("_law_state", 8)]) (g := (gName 8)) (tt := _) rfl nd (pi_list (pv 10)) (blkOk_by (N := N__law_lot_of) (sc := defScope s__law_lot_of) (by decide +kernel)) (fun _ _ _ _ _ => (pg_name (i := 8) nd rfl (Or.inl rfl))) (fun _ _ _ _ _ => (pts_one (pt_cmpR (show OpR _ (compareOp .In) (rIn K false) from op_in_seq) (pv 8) (pv 14) rfl))) (fun _ _ _ _ _ => (show PE _ _ (tBM K "list" (rIndex K) (tVar 14) (tCons (tVar 8) tNil)) from pe_bm PySem.F.plainAttrs_list PySem.F.slot_list_index PySem.F.type_list_index mt_index (pv 14) (pa_cons (pv 8) pa_nil)))) (pa_cons (pv 7) pa_nil))))))))))))))))))), ?_⟩
  have even : ∀ c ∈ z.cps.toList, oddC c = false := fun c hc => by
    unfold oddC
    rw [decide_eq_true (ho c hc)]
    rfl
  refine ⟨_, rfl, d, _, rfl, by decide, hD, fun H1 kind g0 g3 D1 B1 => ?_⟩
  refine ⟨_, rfl, rfl, _, rfl, ?_⟩
  refine ite2 (fun _ => ?_) (fun n0 => ?_)
  · refine ⟨by show 1 ≤ sizeLine; decide, fun l hl => ?_⟩
    have S2 := Rz.Same.new (o := .lst [.int 0]) (Same.refl H1) hl
    have el : upd H1 l (.lst [.int 0]) l = some (.lst [.int 0]) := upd_same
    have D2 := D1.same S2
    have hl1 : H1 l = none := hl
    generalize upd H1 l (.lst [.int 0]) = H2 at S2 el D2 ⊢
    refine sort_signs rfl (by omega) hn fun H3 q ds S3 hq eq pm pw => ⟨q, rfl, ⟨_, SqL.of eq⟩, fun D hDn => lc_it walk_list (fun i H' => Same H3 H' ∧ MAt H' D (everyM (ds.take i))) ⟨Rz.Same.new (Same.refl _) hDn, [], upd_same, .nil⟩ (fun i H' _ h => SqL.of (h.1 _ _ eq)) ?_ ?_⟩
    · rintro i x G1 G2 hi ⟨S, ts, e, P⟩ ⟨rfl, hx⟩
      obtain ⟨c, hc, rfl⟩ := sgs_get hx
      have lts := P.len
      unfold everyM at lts
      rw [List.length_map, List.length_take] at lts
      have lds := pm.length_eq
      have lz : z.cps.toList.length = z.length := rfl
      refine ⟨rfl, yesT ⟨_, rfl, by show 3 ≤ sizeLine; decide, fun u hu => ?_⟩⟩
      have S4 := Rz.Same.new (o := .tup [.int 0, .str ⟨#[c]⟩, .int 0]) (Same.refl G2) hu
      refine ⟨_, S4 _ _ e, by rw [List.length_map, sizeLine_eq]; omega, Rz.Same.upd (S.trans S4) hDn, ?_⟩
      have M := mat_push (m := (0, ⟨#[c]⟩, 0)) e P hu
      unfold everyM at M ⊢
      rw [List.take_add_one, hc, List.map_append]
      exact M
    rintro G ⟨SG, M⟩
    have ll : ((sgs ds).map V.str).length = ds.length := by unfold sgs; rw [List.length_map, List.length_map]
    rw [ll, List.take_length] at M
    refine ⟨by show 3 ≤ sizeLine; decide, fun t ht => ?_⟩
    have S5 := Rz.Same.new (o := .tup [.int 1, .ref l, .ref D]) (Same.refl G) ht
    have SA := ((S2.trans S3).trans SG).trans S5
    have hD0 : H1 D = none := (S2.trans S3).free hDn
    have ht0 : H1 t = none := ((S2.trans S3).trans SG).free ht
    have lds := pm.length_eq
    have lz : z.cps.toList.length = z.length := rfl
    have lM : (everyM ds).length = ds.length := by unfold everyM; rw [List.length_map]
    refine k _ t l D 1 [0] (everyM ds) upd_same (((S3.trans SG).trans S5) _ _ el) (M.same S5) (every_ok pw fun c hc => even c (pm.mem_iff.mp hc)) (by decide) (by decide) (by omega) (fun x hx => ?_) (B1.free1 D1 ht0) (B1.free1 D1 hl1) (B1.free1 D1 hD0) (D1.same SA) (B1.trans (But.of SA))
    obtain ⟨c, hc, rfl⟩ := List.mem_map.mp hx
    exact ⟨c, pm.mem_iff.mp hc, rfl⟩
  refine ⟨_, rfl, rfl, _, rfl, ?_⟩
  refine ite2 (fun _ => ?_) (fun n1 => ?_)
  · refine ⟨_, rfl, _, rfl, d, z, 0, 6, rfl, by decide, by decide, by decide, by omega, by omega, D1, fun H2 x _ x6 ox D2 B2 => ?_⟩
    have lx : x.length ≤ sizeLine := by rw [sizeLine_eq]; omega
    refine ⟨_, rfl, x, rfl, lx, _, _, rfl, rfl, ?_⟩
    refine ⟨_, rfl, x, rfl, lx, by show 1 ≤ sizeLine; decide, fun l hl => ?_⟩
    have S3 := Rz.Same.new (o := .lst [.int x.length]) (Same.refl H2) hl
    have el : upd H2 l (.lst [.int x.length]) l = some (.lst [.int x.length]) := upd_same
    have hl2 : H2 l = none := hl
    generalize upd H2 l (.lst [.int x.length]) = H3 at S3 el ⊢
    refine ⟨_, rfl, x, rfl, lx, _, rfl, by omega, by omega, fun D hDn => lc_range (lo := 0) (n := ((x.length : Nat) : Int).toNat) (fun i H' => Same H3 H' ∧ MAt H' D ((wordC x.cps.toList i).map toM)) ⟨Rz.Same.new (Same.refl _) hDn, [], upd_same, .nil⟩ ?_ ?_⟩
    · rintro i G2 hi ⟨S, ts, e, P⟩
      have hi2 : i < x.cps.toList.length := by
        show i < x.cps.size
        have : x.cps.size = x.length := rfl
        omega
      have hc : x.cps.toList[i]? = some x.cps.toList[i] := List.getElem?_eq_getElem hi2
      have lts := P.len
      rw [List.length_map, wordC_len] at lts
      have e0 : (0 : Int) + (i : Nat) = (i : Nat) := Int.zero_add _
      rw [e0]
      refine ⟨rfl, yesT ⟨_, rfl, _, rfl, _, rfl, x, _, x.cps.toList[i], rfl, rfl, lx, atI_nat hc, ?_⟩⟩
      refine ⟨_, rfl, _, _, rfl, rfl, by show 3 ≤ sizeLine; decide, fun u hu => ?_⟩
      have S4 := Rz.Same.new (o := .tup [.int (i : Nat), .str ⟨#[x.cps.toList[i]]⟩, .int ((i : Nat) + 1)]) (Same.refl G2) hu
      refine ⟨_, S4 _ _ e, by rw [List.length_map, sizeLine_eq]; omega, Rz.Same.upd (S.trans S4) hDn, ?_⟩
      have M := mat_push (m := (((i : Nat) : Int), ⟨#[x.cps.toList[i]]⟩, ((i : Nat) : Int) + 1)) e P hu
      have ew : (wordC x.cps.toList (i + 1)).map toM = (wordC x.cps.toList i).map toM ++ [(((i : Nat) : Int), ⟨#[x.cps.toList[i]]⟩, ((i : Nat) : Int) + 1)] := by
        show (wordC x.cps.toList i ++ _).map toM = _
        rw [List.map_append]
        show _ ++ [toM (((i : Nat) : Int), x.cps.toList.getD i 0, ((i + 1 : Nat) : Int))] = _
        rw [List.getD_eq_getElem?_getD, hc]
        rfl
      rw [ew]
      exact M
    rintro G ⟨SG, M⟩
    refine ⟨by show 3 ≤ sizeLine; decide, fun t ht => ?_⟩
    have en : ((x.length : Nat) : Int).toNat = x.length := by omega
    rw [en] at M
    have S5 := Rz.Same.new (o := .tup [.int ((x.length : Int) + 1), .ref l, .ref D]) (Same.refl G) ht
    have SA := (S3.trans SG).trans S5
    have BA := B1.trans B2
    have f1 : ∀ {y : Addr}, H2 y = none → H y = none := fun h => BA.free1 D2 h
    have cl : x.cps.toList.length = x.length := rfl
    have ev : ∀ c ∈ x.cps.toList, oddC c = false := fun c hc => even c (ox c hc)
    refine k _ t l D _ [(x.length : Int)] _ upd_same ((SG.trans S5) _ _ el) (M.same S5) (word_ok (by omega) (by omega) ev) (by omega) (by show 1 ≤ 7; decide) (by rw [List.length_map, wordC_len]; omega) (fun m hm => ?_) (f1 ((S3.trans SG).free ht)) (f1 hl2) (f1 (S3.free hDn)) (D2.same SA) (BA.trans (But.of SA))
    obtain ⟨y, hy, rfl⟩ := List.mem_map.mp hm
    obtain ⟨j, hj, rfl⟩ := wordC_mem.mp hy
    refine ⟨x.cps.toList.getD j 0, ox _ ?_, rfl⟩
    rw [List.getD_eq_getElem?_getD, List.getElem?_eq_getElem (by omega)]
    exact List.getElem_mem _
  refine ⟨_, rfl, d, _, rfl, by decide, D1, fun H2 r r0 r3 D2 B2 => ⟨_, _, rfl, rfl, ?_⟩⟩
  obtain ⟨many, em⟩ : ∃ n : Nat, (1 : Int) + r = (n : Int) := ⟨(1 + r).toNat, by omega⟩
  show gName 6 (V.int (1 + r)) _ _ _
  rw [em]
  have m1 : 1 ≤ many := by omega
  have m3 : many ≤ 3 := by omega
  refine ⟨Nat.zero_le _, fun lm hlm => ?_⟩
  have BA2 := B1.trans B2
  have hlm0 : H lm = none := BA2.free1 D2 hlm
  have D3 := D2.same (Rz.Same.new (o := .lst []) (Same.refl H2) hlm)
  have B3 : But [d] H (upd H2 lm (.lst [])) := BA2.upd (.inr hlm0)
  have M3 : MAt (upd H2 lm (.lst [])) lm (([] : List Mc).map toM) := ⟨[], upd_same, .nil⟩
  generalize upd H2 lm (.lst []) = H3 at D3 B3 M3 ⊢
  have ndl : lm ≠ d := fun z => by
    obtain ⟨ns, e, _⟩ := hD
    rw [z, e] at hlm0
    cases hlm0
  have ndt : ∀ {G : Hp}, Dr G d → ∀ xs, G d ≠ some (.tup xs) := fun D xs z => by
    obtain ⟨ns, e, _⟩ := D
    rw [e] at z
    cases z
  refine ⟨_, rfl, (many : Int), rfl, by omega, by omega, for_range (n := ((many : Nat) : Int).toNat) (fun i σ H' => ∃ (v3 v8 v9 : Option V) (m0 : List Mc), σ = [some (.ref d), some (.str z), some (.int kind), v3, none, none, some (.int many), some (.ref lm), v8, v9, none, none, none, none, none, none] ∧ MAt H' lm (m0.map toM) ∧ m0.Pairwise CLt ∧
      (∀ x ∈ m0, (0 ≤ x.1 ∧ x.1 < (i : Int)) ∧ 0 ≤ x.2.2 ∧ x.2.2 < (many : Int)) ∧ (∀ x ∈ m0, x.2.1 ∈ z.cps.toList) ∧ m0.length ≤ 4 * i ∧ Dr H' d ∧ But [d] H H')
    ⟨none, none, none, [], rfl, M3, List.Pairwise.nil, (fun x hx => by cases hx), (fun x hx => by cases hx), Nat.zero_le _, D3, B3⟩ ?_ ?_⟩
  · rintro i σ G1 hi ⟨v3, v8, v9, m0, rfl, M1, pw1, rg1, sg1, zl1, DG, BG⟩
    have e0 : (0 : Int) + (i : Nat) = (i : Nat) := Int.zero_add _
    rw [e0]
    refine sort_signs rfl (by omega) hn fun G2 q ds S2 hq eq pm pw => ⟨q, rfl, ⟨_, SqL.of eq⟩, for_it walk_list (fun j σ H' => ∃ (v3 v9 : Option V) (m0 : List Mc), σ = [some (.ref d), some (.str z), some (.int kind), v3, none, none, some (.int many), some (.ref lm), some (.int (i : Nat)), v9, none, none, none, none, none, none] ∧ MAt H' lm (m0.map toM) ∧ m0.Pairwise CLt ∧
      (∀ x ∈ m0, (0 ≤ x.1 ∧ (x.1 < (i : Int) ∨ (x.1 = (i : Int) ∧ x.2.1 ∈ ds.take j))) ∧ 0 ≤ x.2.2 ∧ x.2.2 < (many : Int)) ∧ (∀ x ∈ m0, x.2.1 ∈ z.cps.toList) ∧ m0.length ≤ 4 * i + j ∧ Dr H' d ∧ But [d] H H' ∧ H' q = some (.lst ((sgs ds).map V.str)))
      ⟨v3, v9, m0, rfl, M1.same S2, pw1, fun x hx => ⟨⟨(rg1 x hx).1.1, .inl (rg1 x hx).1.2⟩, (rg1 x hx).2⟩, sg1, zl1, DG.same S2, BG.trans (But.of S2), eq⟩ (fun j σ H' _ ⟨_, _, _, _, _, _, _, _, _, _, _, e⟩ => SqL.of e) ?_ ?_⟩
    · rintro j y σ G3 G4 hj ⟨v3, v9, m0, rfl, M3, pw3, rg3, sg3, zl3, D3, B3, e3⟩ ⟨rfl, hy⟩
      obtain ⟨c, hc, rfl⟩ := sgs_get hy
      have cz : c ∈ z.cps.toList := pm.mem_iff.mp (List.mem_of_getElem? hc)
      have jd : j < ds.length := (List.getElem?_eq_some_iff.mp hc).1
      have lds := pm.length_eq
      have lz : z.cps.toList.length = z.length := rfl
      have tk1 : ds.take (j + 1) = ds.take j ++ [c] := by rw [List.take_add_one, hc]; rfl
      refine ⟨_, rfl, _, rfl, _, _, rfl, rfl, d, _, rfl, by omega, D3, fun G5 g g0 g1 D5 B5 => ?_⟩
      have nqd : q ∉ [d] := fun z => by
        obtain ⟨ns, e, _⟩ := DG
        rw [List.mem_singleton.mp z, e] at hq
        cases hq
      have e5 := B5.at e3 nqd
      have M5 := M3.but B5 (by simpa using ndl) (tups1 B5 (ndt D3))
      have B05 := B3.trans B5
      refine ⟨_, rfl, _, rfl, _, _, rfl, rfl, _, rfl, ?_⟩
      refine ite2 (fun h1 => ?_) (fun h1 => ?_)
      · have gm : g < (many : Int) := of_decide_eq_true h1
        obtain ⟨ts, em5, P5⟩ := M5
        have lts := P5.len
        rw [List.length_map] at lts
        refine ⟨_, rfl, .inl ⟨rfl, _, SqL.of em5⟩, _, rfl, _, rfl, _, rfl, by show 3 ≤ sizeLine; decide, fun u hu => ?_⟩
        have S6 := Rz.Same.new (o := .tup [.int (i : Nat), .str ⟨#[c]⟩, .int g]) (Same.refl G5) hu
        have nql : q ≠ lm := fun z => by
          obtain ⟨ts0, e0, _⟩ := M1
          rw [z, e0] at hq
          cases hq
        refine ⟨lm, _, _, rfl, rfl, S6 _ _ em5, by rw [List.length_map, sizeLine_eq]; omega, ?_⟩
        refine ⟨_, _, m0 ++ [(((i : Nat) : Int), c, g)], rfl, ?_, ?_, fun x hx => ?_, fun x hx => ?_, ?_, ?_, ?_, ?_⟩
        · rw [List.map_append]
          exact mat_push (m := toM (((i : Nat) : Int), c, g)) em5 P5 hu
        · refine List.pairwise_append.mpr ⟨pw3, List.pairwise_singleton _ _, fun a ha b hb => ?_⟩
          rw [List.mem_singleton.mp hb]
          rcases (rg3 a ha).1.2 with q1 | ⟨q1, q2⟩
          · exact .inl q1
          · refine .inr ⟨q1, ?_⟩
            obtain ⟨x, hx, e⟩ := List.getElem_of_mem q2
            rw [List.getElem_take] at e
            rw [List.length_take] at hx
            have := List.pairwise_iff_getElem.mp pw x j (by omega) jd (by omega)
            rw [e] at this
            have e7 : ds[j] = c := by
              rw [List.getElem?_eq_getElem jd] at hc
              exact Option.some.inj hc
            rw [e7] at this
            exact this
        · rcases List.mem_append.mp hx with q1 | q1
          · obtain ⟨⟨a1, a2⟩, a3⟩ := rg3 x q1
            exact ⟨⟨a1, a2.imp id fun ⟨b1, b2⟩ => ⟨b1, by rw [tk1]; exact List.mem_append_left _ b2⟩⟩, a3⟩
          · rw [List.mem_singleton.mp q1]
            exact ⟨⟨by show (0 : Int) ≤ (i : Nat); omega, .inr ⟨rfl, by rw [tk1]; simp⟩⟩, g0, gm⟩
        · rcases List.mem_append.mp hx with q1 | q1
          · exact sg3 x q1
          · rw [List.mem_singleton.mp q1]
            exact cz
        · rw [List.length_append]
          show m0.length + 1 ≤ _
          omega
        · exact (D5.same S6).upd (by simpa using Ne.symm ndl)
        · exact (B05.trans (But.of S6)).upd (.inr hlm0)
        · rw [upd_ne nql]
          exact S6 _ _ e5
      · refine ⟨_, _, m0, rfl, M5, pw3, fun x hx => ?_, sg3, by omega, D5, B05, e5⟩
        obtain ⟨⟨a1, a2⟩, a3⟩ := rg3 x hx
        exact ⟨⟨a1, a2.imp id fun ⟨b1, b2⟩ => ⟨b1, by rw [tk1]; exact List.mem_append_left _ b2⟩⟩, a3⟩
    · rintro σ G3 ⟨v3, v9, m0, rfl, M3, pw3, rg3, sg3, zl3, D3, B3, e3⟩
      have lds := pm.length_eq
      have lz : z.cps.toList.length = z.length := rfl
      have ll : ((sgs ds).map V.str).length = ds.length := by unfold sgs; rw [List.length_map, List.length_map]
      rw [ll] at zl3
      refine ⟨_, _, _, m0, rfl, M3, pw3, fun x hx => ?_, sg3, by omega, D3, B3⟩
      obtain ⟨⟨a1, a2⟩, a3⟩ := rg3 x hx
      refine ⟨⟨a1, ?_⟩, a3⟩
      have a2 : x.1 < ((i : Nat) : Int) ∨ x.1 = ((i : Nat) : Int) := a2.imp id (·.1)
      show x.1 < ((i + 1 : Nat) : Int)
      omega
  rintro σ G1 ⟨v3, v8, v9, m0, rfl, M1, pw1, rg1, sg1, zl1, DG1, BG1⟩
  have en : ((many : Nat) : Int).toNat = many := by omega
  rw [en] at rg1 zl1
  refine ⟨_, rfl, (many : Int), rfl, by omega, by omega, fun L hL => lc_range (lo := 0) (n := ((many : Nat) : Int).toNat) (fun i H' => ∃ l0 : List Int, H' L = some (.lst (l0.map V.int)) ∧ l0.Pairwise (· < ·) ∧ (∀ x ∈ l0, 0 ≤ x ∧ x < (i : Int)) ∧ l0.length ≤ i ∧ MAt H' lm (m0.map toM) ∧ Dr H' d ∧ But [d] H H')
    ⟨[], upd_same, List.Pairwise.nil, (fun x hx => by cases hx), Nat.zero_le _, M1.same (Rz.Same.new (Same.refl _) hL), DG1.same (Rz.Same.new (Same.refl _) hL), BG1.upd (.inr (BG1.free1 DG1 hL))⟩ ?_ ?_⟩
  · rintro i G2 hi ⟨l0, e, pl, rl, zl0, M2, D2, B2⟩
    have e0 : (0 : Int) + (i : Nat) = (i : Nat) := Int.zero_add _
    rw [e0]
    have nLd : L ∉ [d] := fun z => by
      obtain ⟨ns, e, _⟩ := DG1
      rw [List.mem_singleton.mp z, e] at hL
      cases hL
    have nLm : lm ≠ L := fun z => by
      obtain ⟨ts, e, _⟩ := M1
      rw [← z, e] at hL
      cases hL
    refine ⟨rfl, _, rfl, d, _, rfl, by decide, D2, fun G3 r r0 r1 D3 B3 => ⟨rfl, _, rfl, ?_⟩⟩
    have M3 := M2.but B3 (by simpa using ndl) (tups1 B3 (ndt D2))
    have e3 := B3.at e nLd
    refine ite2 (fun _ => ?_) (fun _ => ?_)
    · refine ⟨_, rfl, _, e3, by rw [List.length_map, sizeLine_eq]; omega, l0 ++ [((i : Nat) : Int)], by rw [upd_same, List.map_append]; rfl, ?_, fun x hx => ?_, ?_, ?_, ?_, ?_⟩
      · refine List.pairwise_append.mpr ⟨pl, List.pairwise_singleton _ _, fun a ha b hb => ?_⟩
        rw [List.mem_singleton.mp hb]
        exact (rl a ha).2
      · rcases List.mem_append.mp hx with q | q
        · have := rl x q
          omega
        · rw [List.mem_singleton.mp q]
          omega
      · rw [List.length_append]
        show l0.length + 1 ≤ _
        omega
      · obtain ⟨ts, em3, P3⟩ := M3
        exact ⟨ts, by rw [upd_ne nLm]; exact em3, P3.keep (Tups.upd (Tups.of (Same.refl G3)) (not_tupL ⟨_, e3⟩))⟩
      · exact D3.upd (by simpa using Ne.symm (by simpa using nLd))
      · exact (B2.trans B3).upd (.inr (BG1.free1 DG1 hL))
    · exact ⟨l0, e3, pl, fun x hx => by have := rl x hx; omega, by omega, M3, D3, B2.trans B3⟩
  rintro G2 ⟨l0, eL, pl, rl, zl0, M2, D2, B2⟩
  rw [en] at rl zl0
  have hL0 : H L = none := BG1.free1 DG1 hL
  refine ⟨by show 1 ≤ sizeLine; decide, fun st hst => ?_⟩
  have S3 := Rz.Same.new (o := .lst [.int 0]) (Same.refl G2) hst
  have est : upd G2 st (.lst [.int 0]) st = some (.lst (([0] : List Int).map V.int)) := upd_same
  generalize upd G2 st (.lst [.int 0]) = G3 at S3 est ⊢
  obtain ⟨ts2, em2, P2⟩ := M2
  have P3 := P2.keep (Tups.of S3)
  have lm0 : (m0.map toM).length = m0.length := List.length_map _
  refine links_lc (fun m => (m.1, m.2.2)) (S3 _ _ em2) P3 (by omega) (fun m => atI_nat (j := 0) rfl) (fun m => atI_nat (j := 2) rfl) fun G4 D4 S4 hD4 LK4 => ?_
  have LK4 : LkAt G4 D4 (fwd (m0.map toM)) := LK4
  have fin : ∀ p ∈ fwd (m0.map toM), 0 ≤ p.2 ∧ p.2 < 7 := fun p hp => by
    obtain ⟨c, hc⟩ := fwd_of (x := p.1) (y := p.2) hp
    have : 0 ≤ p.2 ∧ p.2 < (many : Int) := (rg1 _ hc).2
    omega
  refine ⟨st, D4, [0], fwd (m0.map toM), rfl, S4 _ _ est, LK4, by simp, (fun x hx => by rw [List.mem_singleton.mp hx]; decide), fin, fun G5 ah fs S5 hah eah ndf hf => ?_⟩
  have S25 := (S3.trans S4).trans S5
  have eL5 := S25 _ _ eL
  have em5 := S25 _ _ em2
  have P5 := P2.keep (Tups.of S25)
  have D5 := D2.same S25
  have B5 := B2.trans (But.of S25)
  refine ⟨fun σ H' => ∃ (L1 : Addr) (l1 : List Int), σ = [some (.ref d), some (.str z), some (.int kind), v3, none, none, some (.int many), some (.ref lm), v8, v9, some (.ref L1), none, some (.ref ah), none, none, none] ∧ H' L1 = some (.lst (l1.map V.int)) ∧ l1.Pairwise (· < ·) ∧ (∀ x ∈ l1, 0 ≤ x ∧ x < (many : Int)) ∧ (∃ x ∈ l1, Reach (fwd (m0.map toM)) [0] x) ∧ l1.length ≤ 3 ∧ Same G5 H', ?_, ?_⟩
  · refine ⟨_, rfl, L, rfl, ⟨_, SqL.of eL5⟩, fun D hD => lc_it walk_list (fun i H' => Same G5 H' ∧ H' D = some (.lst (((l0.take i).filter fun x => decide (x ∈ fs)).map V.int))) ⟨Rz.Same.new (Same.refl _) hD, upd_same⟩ (fun i H' _ h => SqL.of (h.1 _ _ eL5)) ?_ ?_⟩
    · rintro i y G6 G7 hi ⟨S, e⟩ ⟨rfl, hy⟩
      obtain ⟨x, hx, rfl⟩ := mapi_get hy
      have lf := List.length_filter_le (fun x => decide (x ∈ fs)) (l0.take i)
      rw [List.length_take] at lf
      refine ⟨rfl, _, rfl, _, rfl, ah, _, rfl, .inl (SqL.of (S _ _ eah)), rfl, flat_ints _, _, rfl, ?_⟩
      rw [if_neg (by decide), in_ints]
      have tk1 : l0.take (i + 1) = l0.take i ++ [x] := by rw [List.take_add_one, hx]; rfl
      refine ite2 (fun h => ?_) (fun h => ?_)
      · refine ⟨_, rfl, _, e, by rw [List.length_map, sizeLine_eq]; omega, Rz.Same.upd S hD, ?_⟩
        rw [tk1, List.filter_append, List.filter_cons, List.filter_nil, if_pos h, upd_same, List.map_append]
        rfl
      · refine ⟨S, ?_⟩
        rw [tk1, List.filter_append, List.filter_cons, List.filter_nil, if_neg h, List.append_nil]
        exact e
    rintro G6 ⟨S6, e6⟩
    rw [List.length_map, List.take_length] at e6
    refine ⟨Nat.zero_le _, fun p hp => ?_⟩
    have S7 := Rz.Same.new (o := .lst []) (Same.refl G6) hp
    have e7 := S7 _ _ e6
    have S57 := S6.trans S7
    refine ⟨dInts (l0.filter fun x => decide (x ∈ fs)), dInts [], dp_ints (SqL.of e7), dp_ints (SqL.of upd_same), ints_shaped _, ints_shaped _, _, rfl, ?_⟩
    rw [ints_eqv]
    refine ite2 (fun e => ?_) (fun e => ?_)
    · refine ⟨by show 1 ≤ sizeLine; decide, fun p2 hp2 => ?_⟩
      have S8 := Rz.Same.new (o := .lst [.int 0]) (Same.refl (upd G6 p (.lst []))) hp2
      exact ⟨p2, [0], rfl, upd_same, by simp, (fun x hx => by rw [List.mem_singleton.mp hx]; omega), ⟨0, by simp, .start (by simp)⟩, by decide, S57.trans S8⟩
    · have ne : l0.filter (fun x => decide (x ∈ fs)) ≠ [] := fun q => e (decide_eq_true q)
      obtain ⟨x, hx⟩ := List.exists_mem_of_ne_nil _ ne
      obtain ⟨h1, h2⟩ := List.mem_filter.mp hx
      exact ⟨L, l0, rfl, S57 _ _ eL5, pl, rl, ⟨x, h1, (hf x).mp (of_decide_eq_true h2)⟩, by omega, S57⟩
  rintro σ G6 ⟨L1, l1, rfl, eL1, pl1, rl1, hit, zl1b, S6⟩
  refine ⟨_, rfl, ?_⟩
  refine links_lc (fun m => (m.2.2, m.1)) (S6 _ _ em5) (P5.keep (Tups.of S6)) (by omega) (fun m => atI_nat (j := 2) rfl) (fun m => atI_nat (j := 0) rfl) fun G7 D7 S7 hD7 LK7 => ?_
  have LK7 : LkAt G7 D7 (bwd (m0.map toM)) := LK7
  have fin2 : ∀ p ∈ bwd (m0.map toM), 0 ≤ p.2 ∧ p.2 < 7 := fun p hp => by
    obtain ⟨c, hc⟩ := fwd_of (x := p.2) (y := p.1) (fwd_mem.mpr hp)
    have : 0 ≤ p.2 ∧ p.2 < (many : Int) := (rg1 _ hc).1
    omega
  refine ⟨L1, D7, l1, bwd (m0.map toM), rfl, S7 _ _ eL1, LK7, pl1.imp (fun q => by omega), (fun x hx => by have := rl1 x hx; omega), fin2, fun G8 bk gs S8 hbk ebk ndg hg => ?_⟩
  have S58 := (S6.trans S7).trans S8
  have S68 := S7.trans S8
  refine ⟨_, rfl, (many : Int), rfl, by omega, by omega, fun KP hKP => lc_range (lo := 0) (n := ((many : Nat) : Int).toNat) (fun i H' => Same G8 H' ∧ ∃ ks : List Int, H' KP = some (.lst (ks.map V.int)) ∧ ks.length ≤ i ∧ ks.Pairwise (· < ·) ∧ ∀ x, x ∈ ks ↔ (0 ≤ x ∧ x < (i : Int)) ∧ x ∈ fs ∧ x ∈ gs)
    ⟨Rz.Same.new (Same.refl _) hKP, [], upd_same, Nat.zero_le _, List.Pairwise.nil, fun x => ⟨fun h => (by cases h), fun h => (by have := h.1; omega)⟩⟩ ?_ ?_⟩
  · rintro i Ga hi ⟨S, ks, e, zk, kp, km⟩
    have e0 : (0 : Int) + (i : Nat) = (i : Nat) := Int.zero_add _
    rw [e0]
    have no : ¬ (((i : Nat) : Int) ∈ fs ∧ ((i : Nat) : Int) ∈ gs) → ∀ x, x ∈ ks ↔ (0 ≤ x ∧ x < ((i + 1 : Nat) : Int)) ∧ x ∈ fs ∧ x ∈ gs := fun h x => by
      rw [km]
      constructor
      · rintro ⟨a, b⟩
        exact ⟨by omega, b⟩
      · rintro ⟨a, b⟩
        refine ⟨?_, b⟩
        have : x ≠ ((i : Nat) : Int) := fun q => h (by rw [← q]; exact b)
        omega
    refine ⟨rfl, _, rfl, _, rfl, ah, _, rfl, .inl (SqL.of (S _ _ (S58 _ _ eah))), rfl, flat_ints _, _, rfl, ?_⟩
    rw [if_neg (by decide), in_ints]
    refine ite2 (fun h1 => ?_) (fun h1 => ?_)
    · refine ⟨_, rfl, _, rfl, bk, _, rfl, .inl (SqL.of (S _ _ ebk)), rfl, flat_ints _, _, rfl, ?_⟩
      rw [if_neg (by decide), in_ints]
      refine ite2 (fun h2 => ?_) (fun h2 => ?_)
      · refine ⟨_, rfl, _, e, by rw [List.length_map, sizeLine_eq]; omega, Rz.Same.upd S hKP, ks ++ [((i : Nat) : Int)], by rw [upd_same, List.map_append]; rfl, by rw [List.length_append]; exact Nat.succ_le_succ zk, ?_, fun x => ?_⟩
        · refine List.pairwise_append.mpr ⟨kp, List.pairwise_singleton _ _, fun a ha b hb => ?_⟩
          rw [List.mem_singleton.mp hb]
          exact ((km a).mp ha).1.2
        · rw [List.mem_append, km, List.mem_singleton]
          constructor
          · rintro (⟨a, b⟩ | a)
            · exact ⟨by omega, b⟩
            · rw [a]
              exact ⟨by omega, of_decide_eq_true h1, of_decide_eq_true h2⟩
          · rintro ⟨a, b⟩
            by_cases q : x = ((i : Nat) : Int)
            · exact .inr q
            · exact .inl ⟨by omega, b⟩
      · exact ⟨S, ks, e, Nat.le_succ_of_le zk, kp, no fun z => h2 (decide_eq_true z.2)⟩
    · exact ⟨S, ks, e, Nat.le_succ_of_le zk, kp, no fun z => h1 (decide_eq_true z.1)⟩
  rintro G9 ⟨S9, ks, eK, zk, kp, km⟩
  rw [en] at zk km
  have dr : Drawn many m0 l1 ks := ⟨m1, by omega, pw1, rg1, fun x hx => even _ (sg1 x hx), pl1, rl1, hit, kp, fun x => by rw [km, hf, hg]⟩
  have S59 := S58.trans S9
  have em9 := S59 _ _ em5
  have P9 := P5.keep (Tups.of S59)
  have lts := P9.len
  refine ⟨_, rfl, lm, rfl, ⟨_, SqL.of em9⟩, fun IN hIN => lc_it walk_list (fun i H' => Same G9 H' ∧ ∃ us : List Addr, H' IN = some (.lst (us.map V.ref)) ∧ MvL H' us (((m0.take i).filter fun x => decide (x.1 ∈ ks ∧ x.2.2 ∈ ks)).map toM)) ⟨Rz.Same.new (Same.refl _) hIN, [], upd_same, .nil⟩ (fun i H' _ h => SqL.of (h.1 _ _ em9)) ?_ ?_⟩
  · rintro i y Ga Gb hi ⟨S, us, e, P⟩ ⟨rfl, hy⟩
    obtain ⟨t, ht, rfl⟩ := refs_get hy
    obtain ⟨m, hm, et⟩ := P9.get ht
    rw [List.getElem?_map] at hm
    cases hx : m0[i]? with
    | none => rw [hx] at hm; cases hm
    | some x =>
      rw [hx] at hm
      cases hm
      have lus := P.len
      rw [List.length_map] at lus
      have lf := List.length_filter_le (fun x : Mc => decide (x.1 ∈ ks ∧ x.2.2 ∈ ks)) (m0.take i)
      rw [List.length_take] at lf
      have tk1 : m0.take (i + 1) = m0.take i ++ [x] := by rw [List.take_add_one, hx]; rfl
      have no : ¬ (x.1 ∈ ks ∧ x.2.2 ∈ ks) → Same G9 Gb ∧ ∃ us : List Addr, Gb IN = some (.lst (us.map V.ref)) ∧ MvL Gb us (((m0.take (i + 1)).filter fun x => decide (x.1 ∈ ks ∧ x.2.2 ∈ ks)).map toM) := fun h => by
        refine ⟨S, us, e, ?_⟩
        rw [tk1, List.filter_append, List.filter_cons, List.filter_nil, if_neg (fun q => h (of_decide_eq_true q)), List.append_nil]
        exact P
      refine ⟨rfl, _, rfl, t, _, 0, _, rfl, rfl, SqT.of (S _ _ et), atI_nat (j := 0) rfl, _, rfl, KP, _, rfl, .inl (SqL.of (S _ _ eK)), rfl, flat_ints _, _, rfl, ?_⟩
      rw [if_neg (by decide)]
      show if inV (.int x.1) (ks.map V.int) = true then _ else _
      rw [in_ints]
      refine ite2 (fun h1 => ?_) (fun h1 => no fun q => h1 (decide_eq_true q.1))
      refine ⟨_, rfl, t, _, 2, _, rfl, rfl, SqT.of (S _ _ et), atI_nat (j := 2) rfl, _, rfl, KP, _, rfl, .inl (SqL.of (S _ _ eK)), rfl, flat_ints _, _, rfl, ?_⟩
      rw [if_neg (by decide)]
      show if inV (.int x.2.2) (ks.map V.int) = true then _ else _
      rw [in_ints]
      refine ite2 (fun h2 => ?_) (fun h2 => no fun q => h2 (decide_eq_true q.2))
      have yes : x.1 ∈ ks ∧ x.2.2 ∈ ks := ⟨of_decide_eq_true h1, of_decide_eq_true h2⟩
      refine ⟨_, rfl, _, e, by rw [List.length_map, sizeLine_eq]; omega, Rz.Same.upd S hIN, us ++ [t], by rw [upd_same, List.map_append]; rfl, ?_⟩
      rw [tk1, List.filter_append, List.filter_cons, List.filter_nil, if_pos (decide_eq_true yes), List.map_append]
      have T3 : Tups Gb (upd Gb IN (.lst (us.map V.ref ++ [.ref t]))) := Tups.upd (Tups.of (Same.refl _)) (not_tupL ⟨_, e⟩)
      exact (P.keep T3).append (.cons (T3 _ _ (S _ _ et)) .nil)
  rintro Gc ⟨Sc, us, eI, PI⟩
  have len1 : ((ts2.map V.ref).length) = m0.length := by rw [List.length_map, lts, List.length_map]
  rw [len1, List.take_length] at PI
  have eK2 := Sc _ _ eK
  have inn : ∀ x ∈ m0.filter (fun x => decide (x.1 ∈ ks ∧ x.2.2 ∈ ks)), x.1 ∈ ks ∧ x.2.2 ∈ ks := fun x hx => of_decide_eq_true (List.mem_filter.mp hx).2
  have lin := List.length_filter_le (fun x : Mc => decide (x.1 ∈ ks ∧ x.2.2 ∈ ks)) m0
  have ekeep : keepM ks m0 = (m0.filter fun x => decide (x.1 ∈ ks ∧ x.2.2 ∈ ks)).map fun x => (kx ks x.1, x.2.1, kx ks x.2.2) := rfl
  generalize m0.filter (fun x => decide (x.1 ∈ ks ∧ x.2.2 ∈ ks)) = inner at PI inn lin ekeep
  refine ⟨_, rfl, IN, rfl, ⟨_, SqL.of eI⟩, fun MV hMV => lc_it walk_list (fun i H' => Same Gc H' ∧ MAt H' MV (((inner.take i).map fun x => ((kx ks x.1, x.2.1, kx ks x.2.2) : Mc)).map toM)) ⟨Rz.Same.new (Same.refl _) hMV, [], upd_same, .nil⟩ (fun i H' _ h => SqL.of (h.1 _ _ eI)) ?_ ?_⟩
  · rintro i y Ga Gb hi ⟨S, ws, e, P⟩ ⟨rfl, hy⟩
    obtain ⟨t, ht, rfl⟩ := refs_get hy
    obtain ⟨m, hm, et⟩ := PI.get ht
    rw [List.getElem?_map] at hm
    cases hx : inner[i]? with
    | none => rw [hx] at hm; cases hm
    | some x =>
      rw [hx] at hm
      cases hm
      have hin := inn x (List.mem_of_getElem? hx)
      have lws := P.len
      rw [List.length_map, List.length_map, List.length_take] at lws
      have tk1 : inner.take (i + 1) = inner.take i ++ [x] := by rw [List.take_add_one, hx]; rfl
      have eK3 := S _ _ eK2
      have et3 := S _ _ et
      refine ⟨rfl, yesT ⟨_, rfl, .inl ⟨rfl, _, SqL.of eK3⟩, _, rfl, t, _, 0, _, rfl, rfl, SqT.of et3, atI_nat (j := 0) rfl, index_args eK3 hin.1 ?_⟩⟩
      refine ⟨_, rfl, t, _, 1, _, rfl, rfl, SqT.of et3, atI_nat (j := 1) rfl, ?_⟩
      refine ⟨_, rfl, .inl ⟨rfl, _, SqL.of eK3⟩, _, rfl, t, _, 2, _, rfl, rfl, SqT.of et3, atI_nat (j := 2) rfl, index_args eK3 hin.2 ?_⟩
      refine ⟨by show 3 ≤ sizeLine; decide, fun u hu => ?_⟩
      have S4 := Rz.Same.new (o := .tup [.int (kx ks x.1), .str ⟨#[x.2.1]⟩, .int (kx ks x.2.2)]) (Same.refl Gb) hu
      refine ⟨_, S4 _ _ e, by rw [List.length_map, sizeLine_eq]; omega, Rz.Same.upd (S.trans S4) hMV, ?_⟩
      rw [tk1, List.map_append, List.map_append]
      exact mat_push (m := toM (kx ks x.1, x.2.1, kx ks x.2.2)) e P hu
  rintro Gd ⟨Sd, MM⟩
  have lus := PI.len
  rw [List.length_map] at lus
  rw [List.length_map, lus, List.take_length, ← ekeep] at MM
  have eK4 := Sd _ _ eK2
  have eL4 := Sd _ _ (Sc _ _ (S9 _ _ (S68 _ _ eL1)))
  refine ⟨_, rfl, ?_⟩
  unfold rLenS
  refine ⟨KP, _, rfl, SqL.of eK4, ?_⟩
  refine ⟨_, rfl, L1, rfl, ⟨_, SqL.of eL4⟩, fun LL hLL => lc_it walk_list (fun i H' => Same Gd H' ∧ H' LL = some (.lst ((keepL ks (l1.take i)).map V.int))) ⟨Rz.Same.new (Same.refl _) hLL, upd_same⟩ (fun i H' _ h => SqL.of (h.1 _ _ eL4)) ?_ ?_⟩
  · rintro i y Ga Gb hi ⟨S, e⟩ ⟨rfl, hy⟩
    obtain ⟨x, hx, rfl⟩ := mapi_get hy
    have tk1 : l1.take (i + 1) = l1.take i ++ [x] := by rw [List.take_add_one, hx]; rfl
    have lf := List.length_filter_le (fun x => decide (x ∈ ks)) (l1.take i)
    rw [List.length_take] at lf
    refine ⟨rfl, _, rfl, _, rfl, KP, _, rfl, .inl (SqL.of (S _ _ eK4)), rfl, flat_ints _, _, rfl, ?_⟩
    rw [if_neg (by decide), in_ints]
    refine ite2 (fun h => ?_) (fun h => ?_)
    · refine ⟨_, rfl, .inl ⟨rfl, _, SqL.of (S _ _ eK4)⟩, _, rfl, index_args (S _ _ eK4) (of_decide_eq_true h) ⟨_, e, ?_, Rz.Same.upd S hLL, ?_⟩⟩
      · unfold keepL
        rw [List.length_map, List.length_map, sizeLine_eq]
        omega
      · unfold keepL
        rw [tk1, List.filter_append, List.filter_cons, List.filter_nil, if_pos h, upd_same, List.map_append, List.map_append]
        rfl
    · refine ⟨S, ?_⟩
      unfold keepL at e ⊢
      rw [tk1, List.filter_append, List.filter_cons, List.filter_nil, if_neg h, List.append_nil]
      exact e
  rintro Ge ⟨Se, eLL⟩
  rw [List.length_map, List.take_length] at eLL
  refine ⟨_, rfl, by show 3 ≤ sizeLine; decide, fun t ht => ?_⟩
  have Sf := Rz.Same.new (o := .tup [.int (ks.map V.int).length, .ref LL, .ref MV]) (Same.refl Ge) ht
  have S5d := (S59.trans Sc).trans Sd
  have S5f := (S5d.trans Se).trans Sf
  have f1 : ∀ {y : Addr}, G5 y = none → H y = none := fun h => B5.free1 D5 h
  have lk := dr.size
  have lkl : (keepL ks l1).length ≤ 3 := by
    unfold keepL
    rw [List.length_map]
    exact Nat.le_trans (List.length_filter_le _ _) zl1b
  refine k _ t LL MV ((ks.map V.int).length : Nat) (keepL ks l1) ((keepM ks m0).map toM) upd_same (Sf _ _ eLL) ((MM.same Se).same Sf) (by rw [List.length_map]; exact dr.ok) (by rw [List.length_map]; omega) (by omega) (by rw [ekeep, List.length_map, List.length_map]; omega) (fun m hm => ?_) (f1 ((S5d.trans Se).free ht)) (f1 (S5d.free hLL)) (f1 ((S59.trans Sc).free hMV)) (D5.same S5f) (B5.trans (But.of S5f))
  obtain ⟨y, hy, rfl⟩ := List.mem_map.mp hm
  obtain ⟨a, c, b, h1, _, _, rfl⟩ := keepM_of hy
  exact ⟨c, sg1 _ h1, rfl⟩
end
end Rz

namespace Rz
open PySem PySem.Spec PyProof.Rows L2
def sp_law_lines_of : Sp := fun vs H Q _ => ∃ (l : Addr) (rs : List Ru), vs = [.ref l] ∧ SAt H l rs ∧ GoodB rs ∧ rs.length ≤ 6 ∧ ∀ H', Same H H' → Q (.str (wrT rs)) H'
theorem ruleT_eq (l r : Str) : l ++ ":" ++ r = ruleT l r := by
  have a : (l ++ ":" ++ r).cps.toList = (ruleT l r).cps.toList := by
    unfold ruleT
    show ((l.cps ++ (":" : Str).cps) ++ r.cps).toList = (((Str.empty.cps ++ l.cps) ++ (":" : Str).cps) ++ r.cps).toList
    rw [Array.toList_append, Array.toList_append, Array.toList_append, Array.toList_append, Array.toList_append]
    rfl
  have d := Array.toList_inj.mp a
  generalize l ++ ":" ++ r = x at d
  generalize ruleT l r = y at d
  cases x
  cases y
  exact congrArg Str.mk d
section
variable {w : World} {K : PySem.W.Frag} {mg : Str → Option Value} {base : Heap}
theorem sc_law_lines_of : FnScope N__law_lines_of P__law_lines_of (defScope s__law_lines_of) := ⟨rfl, rfl, rfl, by decide +kernel, rfl, by decide +kernel, by decide +kernel⟩
theorem ok_law_lines_of (T : Txt K mg) : FnOk prg w K mg base (L2.CX prg w) 1 T.f__law_lines_of T.fd__law_lines_of P__law_lines_of sp_law_lines_of := by
  refine Rz.Fun.okN T.F__law_lines_of sc_law_lines_of (fun vs H Q E h => ?_) (fun cdv A outer s H vs Q E hr h => ?_)
  · obtain ⟨l, rs, rfl, _⟩ := h
    rfl
  obtain ⟨l, rs, rfl, hS, hg, h6, k⟩ := h
  have nd := sc_law_lines_of.nd
  refine ⟨_, (pss_one (ps_ret (pe_join pe_str (pe_lc (own := [("_law_left", 1), ("_law_right", 2)]) (g := gTup K 2 (gCons (gName 1) (gCons (gName 2) gNil))) (tt := tYes) rfl nd (pi_list (pv 0)) (blkOk_by (N := N__law_lines_of) (sc := defScope s__law_lines_of) (by decide +kernel)) (fun _ _ _ _ _ => (pg_tup rfl (pgs_cons (pg_name (i := 1) nd rfl (Or.inl rfl)) (pgs_cons (pg_name (i := 2) nd rfl (Or.inl rfl)) pgs_nil)))) (fun _ _ _ _ _ => pts_nil) (fun _ _ _ _ _ => (pe_op op_add_str (pe_op op_add_str (pv 1) pe_str) (pv 2))))))), ?_⟩
  obtain ⟨ts, hl, hP⟩ := id hS
  refine ⟨⟨_, rfl⟩, _, rfl, l, rfl, ⟨_, SqL.of hl⟩, fun D hD => lc_sides (K := K) (l := l) (rs := rs) (fun r => .str (ruleT r.1 r.2)) hS (by rw [sizeLine_eq]; omega) hD ?_ ?_⟩
  · intro t r H2 Q2 hr2 S e c
    have gl := good_len (hg r hr2)
    refine ⟨t, _, rfl, SqT.of e, rfl, _, _, rfl, _, _, rfl, rfl, rfl, _, rfl, _, _, rfl, rfl, by show r.1.length + 1 ≤ _; rw [sizeLine_eq]; omega, _, rfl, _, _, rfl, rfl, by rw [Str.length_append]; show r.1.length + 1 + _ ≤ _; rw [sizeLine_eq]; omega, ?_⟩
    rw [ruleT_eq]
    exact c _ (Same.refl _)
  intro H2 S2 e2
  have e2' : rs.map (fun r => V.str (ruleT r.1 r.2)) = (rs.map fun r => ruleT r.1 r.2).map V.str := by rw [List.map_map]; rfl
  rw [e2'] at e2
  refine ⟨_, D, _, rfl, rfl, .inl (SqL.of e2), ?_, k H2 S2⟩
  have := ruleT_sum hg
  rw [List.length_map]
  show _ + _ * 1 ≤ _
  omega
end
end Rz

namespace Rz
open PySem PySem.Spec PyProof.Rows L2
/-! ### sizes of signs -/
def growOf (ab : Nat → Int) (r : Ru) : Int := (r.1.length : Int) - 1 + (r.2.cps.toList.map ab).sum
def summedOf (ab : Nat → Int) (rs : List Ru) (c : Nat) : Int := 1 + (rs.map fun r => (r.1.cps.toList.count c : Int) * growOf ab r).sum
theorem summed_snoc (ab : Nat → Int) (rs : List Ru) (r : Ru) (c : Nat) : summedOf ab (rs ++ [r]) c = summedOf ab rs c + (r.1.cps.toList.count c : Int) * growOf ab r := by
  unfold summedOf
  rw [List.map_append, List.sum_append, List.map_cons, List.map_nil, List.sum_cons, List.sum_nil]
  omega
/-- the sizes g of the signs cs, in the dict at D -/
def SzAt (H : Hp) (D : Addr) (cs : List Nat) (g : Nat → Int) (N : Nat) : Prop := ∃ kvs : List (Key × V), H D = some (.dK kvs) ∧ kvs.length ≤ N ∧ ∀ c : Nat, valV kvs (.inr ⟨#[c]⟩) = if c ∈ cs then some (.int (g c)) else none
theorem SzAt.same {H H' : Hp} {D : Addr} {cs : List Nat} {g : Nat → Int} {N : Nat} (h : SzAt H D cs g N) (S : Same H H') : SzAt H' D cs g N := let ⟨kvs, e, r⟩ := h; ⟨kvs, S _ _ e, r⟩
theorem SzAt.get {H : Hp} {D : Addr} {cs : List Nat} {g : Nat → Int} {N : Nat} (h : SzAt H D cs g N) (c : Nat) : DGet H D (.str ⟨#[c]⟩) (if c ∈ cs then some (.int (g c)) else none) := by
  obtain ⟨kvs, e, l, hv⟩ := h
  rw [← hv]
  exact DGet.k (k := .inr ⟨#[c]⟩) e
theorem SzAt.get1 {H : Hp} {D : Addr} {cs : List Nat} {g : Nat → Int} {N : Nat} (h : SzAt H D cs g N) {c : Nat} (hc : c ∈ cs) : DGet H D (.str ⟨#[c]⟩) (some (.int (g c))) := by
  have q := h.get c
  rwa [if_pos hc] at q
theorem SzAt.isD {H : Hp} {D : Addr} {cs : List Nat} {g : Nat → Int} {N : Nat} (h : SzAt H D cs g N) : IsD H D := let ⟨kvs, e, _⟩ := h; .inl ⟨kvs, .inl e⟩
theorem SzAt.put {H : Hp} {D : Addr} {cs : List Nat} {g : Nat → Int} {N : Nat} (h : SzAt H D cs g N) (hN : N ≤ 10000) {c : Nat} (hc : c ∈ cs) (v : Int) : ∃ H' o, DPut H D (.str ⟨#[c]⟩) (.int v) H' ∧ SzAt H' D cs (fun x => if x = c then v else g x) (N + 1) ∧ H' = upd H D o := by
  obtain ⟨kvs, e, l, hv⟩ := h
  refine ⟨_, _, DPut.k (k := .inr ⟨#[c]⟩) e (by rw [sizeLine_eq]; omega), ⟨_, upd_same, Nat.le_trans (length_putK _ _ _) (by omega), fun x => ?_⟩, rfl⟩
  rw [valV_put, hv]
  by_cases q : x = c
  · subst q
    rw [if_pos rfl, if_pos hc]
    show some (V.int v) = some (V.int (if x = x then v else g x))
    rw [if_pos rfl]
  · have q2 : ¬ (Sum.inr (⟨#[x]⟩ : Str) : Key) = .inr ⟨#[c]⟩ := fun z => q (by
      injection z with z
      have z2 := congrArg (fun s : Str => s.cps.toList) z
      exact (List.cons.inj z2).1)
    rw [if_neg q2]
    show _ = if x ∈ cs then some (V.int (if x = c then v else g x)) else none
    rw [if_neg q]
theorem SzAt.more {H : Hp} {D : Addr} {cs : List Nat} {g : Nat → Int} {N M : Nat} (h : SzAt H D cs g N) (q : N ≤ M) : SzAt H D cs g M := let ⟨kvs, e, r, s⟩ := h; ⟨kvs, e, Nat.le_trans r q, s⟩
theorem SzAt.congr {H : Hp} {D : Addr} {cs : List Nat} {g g' : Nat → Int} {N : Nat} (h : SzAt H D cs g N) (q : ∀ c, g c = g' c) : SzAt H D cs g' N := by
  rw [← show g = g' from funext q]
  exact h
end Rz

namespace Rz
open PySem PySem.Spec PyProof.Rows L2
def sp_Book_summed (cB cC : Addr) : Sp := fun vs H Q _ => ∃ (b t q D : Addr) (rs qs : List Ru) (us : List Addr) (ab : Nat → Int) (cs : List Nat) (N : Nat), vs = [.ref b, .ref q, .ref D] ∧ BkAt cB cC H b t rs ∧ GoodB rs ∧ rs.length ≤ 6 ∧ H q = some (.lst (us.map V.ref)) ∧ RuL cC H us qs ∧ qs.length ≤ 6 ∧ (∀ r ∈ qs, r ∈ rs) ∧ SzAt H D cs ab N ∧ (∀ r ∈ qs, ∀ c ∈ r.2.cps.toList, c ∈ cs) ∧
  ∀ H' d, Same H H' → H d = none → SzAt H' d (usedC (allC rs)) (summedOf ab qs) 60 → Q (.ref d) H'
section
variable {w : World} {K : PySem.W.Frag} {mg : Str → Option Value} {base : Heap}
theorem sc_Book_summed : FnScope N_Book_summed P_Book_summed (defScope s_Book_summed) := ⟨rfl, rfl, rfl, by decide +kernel, rfl, by decide +kernel, by decide +kernel⟩
theorem ok_Book_summed (T : Txt K mg) : FnOk prg w K mg base (L2.CX prg w) 4 T.f_Book_summed T.fd_Book_summed P_Book_summed (sp_Book_summed T.c_Book T.c_Rule) := by
  refine Rz.Fun.okN T.F_Book_summed sc_Book_summed (fun vs H Q E h => ?_) (fun cdv A outer s H vs Q E hr h => ?_)
  · obtain ⟨b, t, q, D, rs, qs, us, ab, cs, N, rfl, _⟩ := h
    rfl
  obtain ⟨b, t, q, D, rs, qs, us, ab, cs, N, rfl, hB, hg, h6, eq, hR, q6, sub, hA, hcs, k⟩ := h
  have nd := sc_Book_summed.nd
  have hu : (A.deeper (envOfC "Book._summed" (defScope s_Book_summed) s.heap.objs.size T.f_Book_summed cdv)).units + 1 < cLine := by
    have := hr.un
    omega
  refine ⟨_, (pss_cons (ps_setDc (i := 4) (own := [("sign", 3)]) (g := gName 3) (tt := tYes) rfl nd rfl rfl (dsw_true rfl rfl rfl (by decide +kernel)) (pi_str (pe_pr (pv 0) T.cl_Book T.M_Book_signs (ok_Book_signs T) (hr.mono (by decide)) T.b_Book_signs passN)) (blkOk_by (N := N_Book_summed) (sc := defScope s_Book_summed) (by decide +kernel)) (fun _ _ _ _ _ => pg_name (i := 3) nd rfl (Or.inl rfl)) (fun _ _ _ _ _ => pts_nil) (fun _ _ _ _ _ => pv 3) (fun _ _ _ _ _ => pe_int))
    (pss_cons (ps_for PassesOwn.never rfl (pi_list (pv 1)) (pg_name (i := 5) nd rfl (Or.inl rfl))
      (pss_cons (ps_set (i := 6) nd rfl (Or.inl rfl) (pe_op op_add (pe_op op_sub (pe_callB call_len_str (by rfl) T.n_len PySem.boot_len (pa_cons (pe_fld (pv 5) rfl) pa_nil)) pe_int) (pe_callB (cr_sum (by rfl)) (by rfl) T.n_sum (by decide +kernel) (pa_cons (pe_lc (own := [("sign", 3)]) (g := (gName 3)) (tt := tYes) rfl nd (pi_str (pe_fld (pv 5) rfl)) (blkOk_by (N := N_Book_summed) (sc := defScope s_Book_summed) (by decide +kernel)) (fun _ _ _ _ _ => (pg_name (i := 3) nd rfl (Or.inl rfl))) (fun _ _ _ _ _ => pts_nil) (fun _ _ _ _ _ => (pe_dget hu (pv 2) (pv 3) (fun _ _ => rfl)))) pa_nil))))
      (pss_one (ps_for PassesOwn.never rfl (pi_str (pe_fld (pv 5) rfl)) (pg_name (i := 3) nd rfl (Or.inl rfl))
        (pss_one (ps_dput hu (pv 4) (pv 3) (pe_op op_add (pe_dget hu (pv 4) (pv 3) (fun _ _ => rfl)) (pv 6)) rfl))))))
    (pss_one (ps_ret (pv 4))))), ?_⟩
  obtain ⟨db, tb, hb, ht, hP⟩ := id hB
  have ul : (usedC (allC rs)).length ≤ 26 := Nat.le_trans (List.length_filter_le _ _) (by decide +kernel)
  refine ⟨_, rfl, b, db, _, rfl, hb, b, t, rs, rfl, hB, hg, h6, fun H1 S1 => ?_⟩
  refine ⟨_, rfl, fun d hd => wk_it walk_str (fun i H' => Same H1 H' ∧ SzAt H' d ((usedC (allC rs)).take i) (fun _ => 1) i) ⟨Rz.Same.new (Same.refl _) hd, [], upd_same, Nat.le_refl _, fun c => by rw [List.take_zero, if_neg (by simp)]; rfl⟩ (fun _ _ _ _ => trivial) ?_ ?_⟩
  · rintro i x G G' hi ⟨S, kvs, e, zk, hv⟩ ⟨rfl, c, hc, rfl⟩
    have hc2 : (usedC (allC rs))[i]? = some c := by
      have : (usedT rs).cps.toList[i]? = some c := by rw [Array.getElem?_toList]; exact hc
      exact this
    have i26 : i < 26 := by
      have := (List.getElem?_eq_some_iff.mp hc2).1
      omega
    refine ⟨rfl, yesT ⟨_, rfl, kvs, .inr ⟨#[c]⟩, rfl, e, by rw [sizeLine_eq]; omega, Rz.Same.upd S hd, _, upd_same, Nat.le_trans (length_putK kvs (.inr ⟨#[c]⟩) (.int 1)) (Nat.succ_le_succ zk), fun y => ?_⟩⟩
    rw [valV_put, hv, List.take_add_one, hc2]
    by_cases q : y = c
    · subst q
      rw [if_pos rfl, if_pos (by simp)]
    · have q2 : ¬ (Sum.inr (⟨#[y]⟩ : Str) : Key) = .inr ⟨#[c]⟩ := fun z => q (by
        injection z with z
        have z2 := congrArg (fun s : Str => s.cps.toList) z
        exact (List.cons.inj z2).1)
      rw [if_neg q2]
      by_cases m : y ∈ (usedC (allC rs)).take i
      · rw [if_pos m, if_pos (List.mem_append_left _ m)]
      · rw [if_neg m, if_neg (fun z => (List.mem_append.mp z).elim m fun z => q (by simpa using z))]
  rintro H2 ⟨S2, Z2⟩
  have ln : (usedT rs).cps.size = (usedC (allC rs)).length := by
    have := (Array.length_toList (xs := (usedT rs).cps)).symm
    exact this
  rw [ln, List.take_length] at Z2
  have S02 := S1.trans S2
  have inU : ∀ r ∈ qs, ∀ c ∈ r.1.cps.toList, c ∈ usedC (allC rs) := fun r hr c hc => by
    have rin := sub r hr
    have g := hg r rin
    unfold usedC
    refine List.mem_filter.mpr ⟨good_in g c ?_, decide_eq_true ?_⟩
    · rw [PySem.Str.cps_append, Array.toList_append]
      exact List.mem_append_left _ hc
    · unfold allC
      refine List.mem_flatten.mpr ⟨_, List.mem_map.mpr ⟨r, rin, rfl⟩, ?_⟩
      rw [PySem.Str.cps_append, Array.toList_append]
      exact List.mem_append_left _ hc
  have luq := hR.len
  have nd1 : H d = none := S1.free hd
  refine ⟨_, rfl, q, rfl, ⟨_, SqL.of (S02 _ _ eq)⟩, for_it (walk_list (xs := us.map V.ref)) (fun i σ H' => ∃ v3 v5 v6 : Option V, σ = [some (.ref b), some (.ref q), some (.ref D), v3, some (.ref d), v5, v6] ∧ Same H H' ∧ SzAt H' d (usedC (allC rs)) (summedOf ab (qs.take i)) (26 + 4 * i)) ⟨none, none, none, rfl, S02, (Z2.more (by omega)).congr fun c => rfl⟩ (fun i σ H' _ h => ?_) ?_ ?_⟩
  · obtain ⟨_, _, _, _, S, _⟩ := h
    exact SqL.of (S _ _ eq)
  · rintro i x σ G G' hi ⟨v3, v5, v6, rfl, S, Z⟩ ⟨rfl, hx⟩
    obtain ⟨u, hu2, rfl⟩ := refs_get hx
    obtain ⟨r, hr2, dq, eu⟩ := hR.get hu2
    have rin := List.mem_of_getElem? hr2
    have g4 := good_len (hg r (sub r rin))
    have i6 : i < 6 := by
      have := (List.getElem?_eq_some_iff.mp hr2).1
      omega
    have eu2 := S _ _ eu
    have tk : qs.take (i + 1) = qs.take i ++ [r] := by rw [List.take_add_one, hr2]; rfl
    have l1 : r.1.length ≤ sizeLine := by rw [sizeLine_eq]; omega
    have l2 : r.2.length ≤ sizeLine := by rw [sizeLine_eq]; omega
    refine ⟨_, rfl, u, _, dq, _, _, rfl, eu2, T.cl_Rule, T.na_Rule_left, rfl, r.1, rfl, l1, _, _, rfl, rfl, ?_⟩
    refine ⟨_, rfl, u, _, dq, _, _, rfl, eu2, T.cl_Rule, T.na_Rule_right, rfl, r.2, rfl, fun A0 hA0 => lc_it walk_str (fun j H' => Same G' H' ∧ H' A0 = some (.lst (((r.2.cps.toList.take j).map ab).map V.int))) ⟨Rz.Same.new (Same.refl _) hA0, upd_same⟩ (fun _ _ _ _ => trivial) ?_ ?_⟩
    · rintro j x Ga Gb hj ⟨Sj, ej⟩ ⟨rfl, c, hc, rfl⟩
      have hc2 : r.2.cps.toList[j]? = some c := by rw [Array.getElem?_toList]; exact hc
      have cin := hcs r rin c (List.mem_of_getElem? hc2)
      refine ⟨rfl, yesT ⟨_, rfl, _, rfl, D, _, rfl, (hA.same (S.trans Sj)).get1 cin, _, ej, ?_, Rz.Same.upd Sj hA0, ?_⟩⟩
      · rw [List.length_map, List.length_map, List.length_take, sizeLine_eq]
        have : j < r.2.length := hj
        omega
      · rw [upd_same, List.take_add_one, hc2, List.map_append, List.map_append]
        rfl
    rintro G3 ⟨S3, e3⟩
    rw [show r.2.cps.size = r.2.cps.toList.length from Array.length_toList.symm, List.take_length] at e3
    refine ⟨A0, _, rfl, SqL.of e3, _, _, rfl, rfl, ?_⟩
    have S13 := S.trans S3
    have Z3 := Z.same S3
    have eg : (r.1.length : Int) - 1 + (r.2.cps.toList.map ab).sum = growOf ab r := rfl
    show gName 6 (V.int ((r.1.length : Int) - 1 + (r.2.cps.toList.map ab).sum)) _ _ _
    rw [eg]
    refine ⟨_, rfl, u, _, dq, _, _, rfl, S3 _ _ eu2, T.cl_Rule, T.na_Rule_left, rfl, r.1, rfl, for_it walk_str (fun j σ H' => ∃ v3 : Option V, σ = [some (.ref b), some (.ref q), some (.ref D), v3, some (.ref d), some (.ref u), some (.int (growOf ab r))] ∧ Same H H' ∧ SzAt H' d (usedC (allC rs)) (fun c => summedOf ab (qs.take i) c + ((r.1.cps.toList.take j).count c : Int) * growOf ab r) (26 + 4 * i + j)) ⟨_, rfl, S13, Z3.congr fun c => by rw [List.take_zero, List.count_nil]; omega⟩ (fun _ _ _ _ _ => trivial) ?_ ?_⟩
    · rintro j x σ Ga Gb hj ⟨v3, rfl, Sj, Zj⟩ ⟨rfl, c, hc, rfl⟩
      have hc2 : r.1.cps.toList[j]? = some c := by rw [Array.getElem?_toList]; exact hc
      have cin := inU r rin c (List.mem_of_getElem? hc2)
      have j4 : j < r.1.length := hj
      obtain ⟨G5, o5, hp5, Z5, e5⟩ := Zj.put (by omega) cin (summedOf ab (qs.take i) c + ((r.1.cps.toList.take j).count c : Int) * growOf ab r + growOf ab r)
      subst e5
      refine ⟨_, rfl, _, rfl, d, _, rfl, Zj.get1 cin, _, rfl, _, _, rfl, rfl, _, rfl, _, rfl, d, _, rfl, hp5, ?_⟩
      refine ⟨_, rfl, Rz.Same.upd Sj nd1, Z5.congr fun y => ?_⟩
      rw [List.take_add_one, hc2, List.count_append]
      by_cases q : y = c
      · subst q
        rw [if_pos rfl]
        show _ = _ + (((List.take j r.1.cps.toList).count y + [y].count y : Nat) : Int) * _
        rw [List.count_singleton_self, Int.natCast_add, Int.add_mul, Int.natCast_one, Int.one_mul, Int.add_assoc]
      · rw [if_neg q]
        show _ = _ + (((List.take j r.1.cps.toList).count y + [c].count y : Nat) : Int) * _
        have z : [c].count y = 0 := by
          rw [List.count_eq_zero]
          simpa using q
        rw [z, Nat.add_zero]
    · rintro σ G5 ⟨v3, rfl, S5, Z5⟩
      rw [show r.1.cps.size = r.1.cps.toList.length from Array.length_toList.symm] at Z5
      refine ⟨_, _, _, rfl, S5, (Z5.more ?_).congr fun c => ?_⟩
      · have : r.1.cps.toList.length = r.1.length := rfl
        omega
      · rw [tk, summed_snoc, List.take_length]
  · rintro σ G ⟨v3, v5, v6, rfl, S, Z⟩
    rw [List.length_map, luq, List.take_length] at Z
    exact ⟨_, rfl, k _ _ S nd1 (Z.more (by omega))⟩
end
end Rz

namespace Rz
open PySem PySem.Spec PyProof.Rows L2
def sp_Book_summedT (cB cC : Addr) : Sp := fun vs H Q _ => ∃ (b t q D : Addr) (rs qs : List Ru) (us : List Addr) (ab : Nat → Int) (cs : List Nat) (N : Nat), vs = [.ref b, .ref q, .ref D] ∧ BkAt cB cC H b t rs ∧ GoodB rs ∧ rs.length ≤ 6 ∧ H q = some (.tup (us.map V.ref)) ∧ RuL cC H us qs ∧ qs.length ≤ 6 ∧ (∀ r ∈ qs, r ∈ rs) ∧ SzAt H D cs ab N ∧ (∀ r ∈ qs, ∀ c ∈ r.2.cps.toList, c ∈ cs) ∧
  ∀ H' d, Same H H' → H d = none → SzAt H' d (usedC (allC rs)) (summedOf ab qs) 60 → Q (.ref d) H'
section
variable {w : World} {K : PySem.W.Frag} {mg : Str → Option Value} {base : Heap}
theorem ok_Book_summedT (T : Txt K mg) : FnOk prg w K mg base (L2.CX prg w) 4 T.f_Book_summed T.fd_Book_summed P_Book_summed (sp_Book_summedT T.c_Book T.c_Rule) := by
  refine Rz.Fun.okN T.F_Book_summed sc_Book_summed (fun vs H Q E h => ?_) (fun cdv A outer s H vs Q E hr h => ?_)
  · obtain ⟨b, t, q, D, rs, qs, us, ab, cs, N, rfl, _⟩ := h
    rfl
  obtain ⟨b, t, q, D, rs, qs, us, ab, cs, N, rfl, hB, hg, h6, eq, hR, q6, sub, hA, hcs, k⟩ := h
  have nd := sc_Book_summed.nd
  have hu : (A.deeper (envOfC "Book._summed" (defScope s_Book_summed) s.heap.objs.size T.f_Book_summed cdv)).units + 1 < cLine := by
    have := hr.un
    omega
  refine ⟨_, (pss_cons (ps_setDc (i := 4) (own := [("sign", 3)]) (g := gName 3) (tt := tYes) rfl nd rfl rfl (dsw_true rfl rfl rfl (by decide +kernel)) (pi_str (pe_pr (pv 0) T.cl_Book T.M_Book_signs (ok_Book_signs T) (hr.mono (by decide)) T.b_Book_signs passN)) (blkOk_by (N := N_Book_summed) (sc := defScope s_Book_summed) (by decide +kernel)) (fun _ _ _ _ _ => pg_name (i := 3) nd rfl (Or.inl rfl)) (fun _ _ _ _ _ => pts_nil) (fun _ _ _ _ _ => pv 3) (fun _ _ _ _ _ => pe_int))
    (pss_cons (ps_for PassesOwn.never rfl (pi_tup (pv 1)) (pg_name (i := 5) nd rfl (Or.inl rfl))
      (pss_cons (ps_set (i := 6) nd rfl (Or.inl rfl) (pe_op op_add (pe_op op_sub (pe_callB call_len_str (by rfl) T.n_len PySem.boot_len (pa_cons (pe_fld (pv 5) rfl) pa_nil)) pe_int) (pe_callB (cr_sum (by rfl)) (by rfl) T.n_sum (by decide +kernel) (pa_cons (pe_lc (own := [("sign", 3)]) (g := (gName 3)) (tt := tYes) rfl nd (pi_str (pe_fld (pv 5) rfl)) (blkOk_by (N := N_Book_summed) (sc := defScope s_Book_summed) (by decide +kernel)) (fun _ _ _ _ _ => (pg_name (i := 3) nd rfl (Or.inl rfl))) (fun _ _ _ _ _ => pts_nil) (fun _ _ _ _ _ => (pe_dget hu (pv 2) (pv 3) (fun _ _ => rfl)))) pa_nil))))
      (pss_one (ps_for PassesOwn.never rfl (pi_str (pe_fld (pv 5) rfl)) (pg_name (i := 3) nd rfl (Or.inl rfl))
        (pss_one (ps_dput hu (pv 4) (pv 3) (pe_op op_add (pe_dget hu (pv 4) (pv 3) (fun _ _ => rfl)) (pv 6)) rfl))))))
    (pss_one (ps_ret (pv 4))))), ?_⟩
  obtain ⟨db, tb, hb, ht, hP⟩ := id hB
  have ul : (usedC (allC rs)).length ≤ 26 := Nat.le_trans (List.length_filter_le _ _) (by decide +kernel)
  refine ⟨_, rfl, b, db, _, rfl, hb, b, t, rs, rfl, hB, hg, h6, fun H1 S1 => ?_⟩
  refine ⟨_, rfl, fun d hd => wk_it walk_str (fun i H' => Same H1 H' ∧ SzAt H' d ((usedC (allC rs)).take i) (fun _ => 1) i) ⟨Rz.Same.new (Same.refl _) hd, [], upd_same, Nat.le_refl _, fun c => by rw [List.take_zero, if_neg (by simp)]; rfl⟩ (fun _ _ _ _ => trivial) ?_ ?_⟩
  · rintro i x G G' hi ⟨S, kvs, e, zk, hv⟩ ⟨rfl, c, hc, rfl⟩
    have hc2 : (usedC (allC rs))[i]? = some c := by
      have : (usedT rs).cps.toList[i]? = some c := by rw [Array.getElem?_toList]; exact hc
      exact this
    have i26 : i < 26 := by
      have := (List.getElem?_eq_some_iff.mp hc2).1
      omega
    refine ⟨rfl, yesT ⟨_, rfl, kvs, .inr ⟨#[c]⟩, rfl, e, by rw [sizeLine_eq]; omega, Rz.Same.upd S hd, _, upd_same, Nat.le_trans (length_putK kvs (.inr ⟨#[c]⟩) (.int 1)) (Nat.succ_le_succ zk), fun y => ?_⟩⟩
    rw [valV_put, hv, List.take_add_one, hc2]
    by_cases q : y = c
    · subst q
      rw [if_pos rfl, if_pos (by simp)]
    · have q2 : ¬ (Sum.inr (⟨#[y]⟩ : Str) : Key) = .inr ⟨#[c]⟩ := fun z => q (by
        injection z with z
        have z2 := congrArg (fun s : Str => s.cps.toList) z
        exact (List.cons.inj z2).1)
      rw [if_neg q2]
      by_cases m : y ∈ (usedC (allC rs)).take i
      · rw [if_pos m, if_pos (List.mem_append_left _ m)]
      · rw [if_neg m, if_neg (fun z => (List.mem_append.mp z).elim m fun z => q (by simpa using z))]
  rintro H2 ⟨S2, Z2⟩
  have ln : (usedT rs).cps.size = (usedC (allC rs)).length := by
    have := (Array.length_toList (xs := (usedT rs).cps)).symm
    exact this
  rw [ln, List.take_length] at Z2
  have S02 := S1.trans S2
  have inU : ∀ r ∈ qs, ∀ c ∈ r.1.cps.toList, c ∈ usedC (allC rs) := fun r hr c hc => by
    have rin := sub r hr
    have g := hg r rin
    unfold usedC
    refine List.mem_filter.mpr ⟨good_in g c ?_, decide_eq_true ?_⟩
    · rw [PySem.Str.cps_append, Array.toList_append]
      exact List.mem_append_left _ hc
    · unfold allC
      refine List.mem_flatten.mpr ⟨_, List.mem_map.mpr ⟨r, rin, rfl⟩, ?_⟩
      rw [PySem.Str.cps_append, Array.toList_append]
      exact List.mem_append_left _ hc
  have luq := hR.len
  have nd1 : H d = none := S1.free hd
  refine ⟨_, rfl, q, rfl, ⟨_, SqT.of (S02 _ _ eq)⟩, for_it (walk_tup (xs := us.map V.ref)) (fun i σ H' => ∃ v3 v5 v6 : Option V, σ = [some (.ref b), some (.ref q), some (.ref D), v3, some (.ref d), v5, v6] ∧ Same H H' ∧ SzAt H' d (usedC (allC rs)) (summedOf ab (qs.take i)) (26 + 4 * i)) ⟨none, none, none, rfl, S02, (Z2.more (by omega)).congr fun c => rfl⟩ (fun i σ H' _ h => ?_) ?_ ?_⟩
  · obtain ⟨_, _, _, _, S, _⟩ := h
    exact SqT.of (S _ _ eq)
  · rintro i x σ G G' hi ⟨v3, v5, v6, rfl, S, Z⟩ ⟨rfl, hx⟩
    obtain ⟨u, hu2, rfl⟩ := refs_get hx
    obtain ⟨r, hr2, dq, eu⟩ := hR.get hu2
    have rin := List.mem_of_getElem? hr2
    have g4 := good_len (hg r (sub r rin))
    have i6 : i < 6 := by
      have := (List.getElem?_eq_some_iff.mp hr2).1
      omega
    have eu2 := S _ _ eu
    have tk : qs.take (i + 1) = qs.take i ++ [r] := by rw [List.take_add_one, hr2]; rfl
    have l1 : r.1.length ≤ sizeLine := by rw [sizeLine_eq]; omega
    have l2 : r.2.length ≤ sizeLine := by rw [sizeLine_eq]; omega
    refine ⟨_, rfl, u, _, dq, _, _, rfl, eu2, T.cl_Rule, T.na_Rule_left, rfl, r.1, rfl, l1, _, _, rfl, rfl, ?_⟩
    refine ⟨_, rfl, u, _, dq, _, _, rfl, eu2, T.cl_Rule, T.na_Rule_right, rfl, r.2, rfl, fun A0 hA0 => lc_it walk_str (fun j H' => Same G' H' ∧ H' A0 = some (.lst (((r.2.cps.toList.take j).map ab).map V.int))) ⟨Rz.Same.new (Same.refl _) hA0, upd_same⟩ (fun _ _ _ _ => trivial) ?_ ?_⟩
    · rintro j x Ga Gb hj ⟨Sj, ej⟩ ⟨rfl, c, hc, rfl⟩
      have hc2 : r.2.cps.toList[j]? = some c := by rw [Array.getElem?_toList]; exact hc
      have cin := hcs r rin c (List.mem_of_getElem? hc2)
      refine ⟨rfl, yesT ⟨_, rfl, _, rfl, D, _, rfl, (hA.same (S.trans Sj)).get1 cin, _, ej, ?_, Rz.Same.upd Sj hA0, ?_⟩⟩
      · rw [List.length_map, List.length_map, List.length_take, sizeLine_eq]
        have : j < r.2.length := hj
        omega
      · rw [upd_same, List.take_add_one, hc2, List.map_append, List.map_append]
        rfl
    rintro G3 ⟨S3, e3⟩
    rw [show r.2.cps.size = r.2.cps.toList.length from Array.length_toList.symm, List.take_length] at e3
    refine ⟨A0, _, rfl, SqL.of e3, _, _, rfl, rfl, ?_⟩
    have S13 := S.trans S3
    have Z3 := Z.same S3
    have eg : (r.1.length : Int) - 1 + (r.2.cps.toList.map ab).sum = growOf ab r := rfl
    show gName 6 (V.int ((r.1.length : Int) - 1 + (r.2.cps.toList.map ab).sum)) _ _ _
    rw [eg]
    refine ⟨_, rfl, u, _, dq, _, _, rfl, S3 _ _ eu2, T.cl_Rule, T.na_Rule_left, rfl, r.1, rfl, for_it walk_str (fun j σ H' => ∃ v3 : Option V, σ = [some (.ref b), some (.ref q), some (.ref D), v3, some (.ref d), some (.ref u), some (.int (growOf ab r))] ∧ Same H H' ∧ SzAt H' d (usedC (allC rs)) (fun c => summedOf ab (qs.take i) c + ((r.1.cps.toList.take j).count c : Int) * growOf ab r) (26 + 4 * i + j)) ⟨_, rfl, S13, Z3.congr fun c => by rw [List.take_zero, List.count_nil]; omega⟩ (fun _ _ _ _ _ => trivial) ?_ ?_⟩
    · rintro j x σ Ga Gb hj ⟨v3, rfl, Sj, Zj⟩ ⟨rfl, c, hc, rfl⟩
      have hc2 : r.1.cps.toList[j]? = some c := by rw [Array.getElem?_toList]; exact hc
      have cin := inU r rin c (List.mem_of_getElem? hc2)
      have j4 : j < r.1.length := hj
      obtain ⟨G5, o5, hp5, Z5, e5⟩ := Zj.put (by omega) cin (summedOf ab (qs.take i) c + ((r.1.cps.toList.take j).count c : Int) * growOf ab r + growOf ab r)
      subst e5
      refine ⟨_, rfl, _, rfl, d, _, rfl, Zj.get1 cin, _, rfl, _, _, rfl, rfl, _, rfl, _, rfl, d, _, rfl, hp5, ?_⟩
      refine ⟨_, rfl, Rz.Same.upd Sj nd1, Z5.congr fun y => ?_⟩
      rw [List.take_add_one, hc2, List.count_append]
      by_cases q : y = c
      · subst q
        rw [if_pos rfl]
        show _ = _ + (((List.take j r.1.cps.toList).count y + [y].count y : Nat) : Int) * _
        rw [List.count_singleton_self, Int.natCast_add, Int.add_mul, Int.natCast_one, Int.one_mul, Int.add_assoc]
      · rw [if_neg q]
        show _ = _ + (((List.take j r.1.cps.toList).count y + [c].count y : Nat) : Int) * _
        have z : [c].count y = 0 := by
          rw [List.count_eq_zero]
          simpa using q
        rw [z, Nat.add_zero]
    · rintro σ G5 ⟨v3, rfl, S5, Z5⟩
      rw [show r.1.cps.size = r.1.cps.toList.length from Array.length_toList.symm] at Z5
      refine ⟨_, _, _, rfl, S5, (Z5.more ?_).congr fun c => ?_⟩
      · have : r.1.cps.toList.length = r.1.length := rfl
        omega
      · rw [tk, summed_snoc, List.take_length]
  · rintro σ G ⟨v3, v5, v6, rfl, S, Z⟩
    rw [List.length_map, luq, List.take_length] at Z
    exact ⟨_, rfl, k _ _ S nd1 (Z.more (by omega))⟩
end
end Rz

namespace Rz
open PySem PySem.Spec PyProof.Rows L2
/-- not x.f -/
def tNoFld (K : PySem.W.Frag) (i : Nat) (f : Str) : TT := fun σ H Q => tFld K (tVar i) f σ H fun x H' => ∃ k, TruV K x H' k ∧ Q (!k) H'
def erasing (rs : List Ru) : List Ru := rs.filter fun r => decide (r.2.length = 0)
/-- the sizes of the signs, so many heights below the bound -/
def sizesAt (rs : List Ru) : Nat → Nat → Int
  | 0 => summedOf (fun _ => 0) (erasing rs)
  | k + 1 => summedOf (sizesAt rs k) rs
def sp_Book_sizes_at_bound (cB cC : Addr) : Sp := fun vs H Q _ => ∃ (b t : Addr) (rs : List Ru), vs = [.ref b] ∧ BkAt cB cC H b t rs ∧ GoodB rs ∧ rs.length ≤ 6 ∧ ∀ H' d, Same H H' → H d = none → SzAt H' d (usedC (allC rs)) (sizesAt rs 0) 60 → Q (.ref d) H'
section
variable {w : World} {K : PySem.W.Frag} {mg : Str → Option Value} {base : Heap}
theorem sc_Book_sizes_at_bound : FnScope N_Book_sizes_at_bound P_Book_sizes_at_bound (defScope s_Book_sizes_at_bound) := ⟨rfl, rfl, rfl, by decide +kernel, rfl, by decide +kernel, by decide +kernel⟩
theorem ok_Book_sizes_at_bound (T : Txt K mg) : FnOk prg w K mg base (L2.CX prg w) 6 T.f_Book_sizes_at_bound T.fd_Book_sizes_at_bound P_Book_sizes_at_bound (sp_Book_sizes_at_bound T.c_Book T.c_Rule) := by
  refine Rz.Fun.okN T.F_Book_sizes_at_bound sc_Book_sizes_at_bound (fun vs H Q E h => ?_) (fun cdv A outer s H vs Q E hr h => ?_)
  · obtain ⟨b, t, rs, rfl, _⟩ := h
    rfl
  obtain ⟨b, t, rs, rfl, hB, hg, h6, k⟩ := h
  have nd := sc_Book_sizes_at_bound.nd
  refine ⟨_, (pss_cons (ps_setLc (i := 2) (own := [("rule", 1)]) (g := (gName 1)) (tt := tNoFld K 1 "right") rfl nd rfl rfl (sw_true rfl rfl rfl (by decide +kernel)) (pi_tup (pe_fld (pv 0) rfl)) (blkOk_by (N := N_Book_sizes_at_bound) (sc := defScope s_Book_sizes_at_bound) (by decide +kernel)) (fun _ _ _ _ _ => (pg_name (i := 1) nd rfl (Or.inl rfl))) (fun _ _ _ _ _ => (pts_one (pt_not (pt_truth (pe_fld (pv 1) rfl) (by intro _; rfl))))) (fun _ _ _ _ _ => (pv 1)))
    (pss_one (ps_ret (pe_mt (pv 0) T.cl_Book T.M_Book_summed (ok_Book_summed T) (hr.mono (by decide)) T.b_Book_summed .nil (fun _ => atN _) (pa_cons (pv 2) (pa_cons pe_dnewK pa_nil)))))), ?_⟩
  obtain ⟨db, tb, hb, ht, hP⟩ := id hB
  refine ⟨_, rfl, b, _, db, _, _, rfl, hb, T.cl_Book, T.na_Book__rules, rfl, t, rfl, ⟨_, SqT.of ht⟩, fun D hD => lc_it walk_tup (fun i H' => Same H H' ∧ ∃ us : List Addr, H' D = some (.lst (us.map V.ref)) ∧ RuL T.c_Rule H' us (erasing (rs.take i))) ⟨Rz.Same.new (Same.refl _) hD, [], upd_same, .nil⟩ (fun i H' _ h => SqT.of (h.1 _ _ ht)) ?_ ?_⟩
  · rintro i x Ga Gb hi ⟨S, us, e, P⟩ ⟨rfl, hx⟩
    obtain ⟨u, hu2, rfl⟩ := refs_get hx
    obtain ⟨r, hr2, dq, eu⟩ := hP.get hu2
    have i6 : i < 6 := by
      have := (List.getElem?_eq_some_iff.mp hr2).1
      omega
    have eu2 := S _ _ eu
    have tk : erasing (rs.take (i + 1)) = erasing (rs.take i) ++ erasing [r] := by
      unfold erasing
      rw [List.take_add_one, hr2, List.filter_append]
      rfl
    have lus := P.len
    have le := List.length_filter_le (fun r : Ru => decide (r.2.length = 0)) (rs.take i)
    rw [List.length_take] at le
    unfold erasing at lus
    have g4 := good_len (hg r (List.mem_of_getElem? hr2))
    refine ⟨rfl, _, rfl, u, _, dq, _, _, rfl, eu2, T.cl_Rule, T.na_Rule_right, rfl, ((r.2.length : Int) != 0), ⟨by rw [sizeLine_eq]; omega, rfl⟩, ?_⟩
    by_cases h0 : r.2.length = 0
    · rw [h0]
      have one : erasing [r] = [r] := by
        unfold erasing
        rw [List.filter_cons, if_pos (decide_eq_true h0)]
        rfl
      have S1 : Same H (upd Gb D (.lst (us.map V.ref ++ [.ref u]))) := Rz.Same.upd S hD
      refine iteT ⟨_, rfl, _, e, by rw [List.length_map, sizeLine_eq]; omega, S1, us ++ [u], by rw [upd_same, List.map_append]; rfl, ?_⟩
      rw [tk, one]
      refine RuL.append (P.but (D := [D]) (fun b o n e => by rw [upd_ne (by simpa using n)]; exact e) (fun x hx dq l r z => ?_)) (.cons ⟨dq, S1 _ _ eu⟩ .nil)
      rw [List.mem_singleton.mp hx, e] at z
      cases z
    · have z : ((r.2.length : Int) != 0) = true := by
        have : (r.2.length : Int) ≠ 0 := by omega
        simpa using this
      rw [z]
      refine iteF ⟨S, us, e, ?_⟩
      have none1 : erasing [r] = [] := by
        unfold erasing
        rw [List.filter_cons, if_neg (by simpa using h0)]
        rfl
      rw [tk, none1, List.append_nil]
      exact P
  rintro G ⟨S, us, e, P⟩
  rw [List.length_map, hP.len, List.take_length] at P
  refine ⟨_, rfl, b, db, _, rfl, S _ _ hb, rfl, _, rfl, fun D0 hD0 => ?_⟩
  have S1 := Rz.Same.new (o := .dK []) (Same.refl G) hD0
  have S01 := S.trans S1
  have le := List.length_filter_le (fun r : Ru => decide (r.2.length = 0)) rs
  refine ⟨b, t, D, D0, rs, erasing rs, us, fun _ => 0, [], 0, rfl, hB.same S01, hg, h6, S1 _ _ e, P.same S1, by unfold erasing; omega, fun r hr => (List.mem_filter.mp hr).1, ⟨[], upd_same, Nat.le_refl _, fun c => by rw [if_neg (by simp)]; rfl⟩, fun r hr c hc => ?_, fun H' d S' hd Z => k H' d (S01.trans S') (S01.free hd) Z⟩
  have := of_decide_eq_true (List.mem_filter.mp hr).2
  have l0 : r.2.cps.toList.length = 0 := this
  rw [List.eq_nil_of_length_eq_zero l0] at hc
  cases hc
end
end Rz

namespace Rz
open PySem PySem.Spec PyProof.Rows L2
def sp_Book_sizes_below (cB cC : Addr) : Sp := fun vs H Q _ => ∃ (b t D : Addr) (rs : List Ru) (i : Nat), vs = [.ref b, .ref D] ∧ BkAt cB cC H b t rs ∧ GoodB rs ∧ rs.length ≤ 6 ∧ SzAt H D (usedC (allC rs)) (sizesAt rs i) 60 ∧ ∀ H' d, Same H H' → H d = none → SzAt H' d (usedC (allC rs)) (sizesAt rs (i + 1)) 60 → Q (.ref d) H'
theorem used_right {rs : List Ru} (hg : GoodB rs) : ∀ r ∈ rs, ∀ c ∈ r.2.cps.toList, c ∈ usedC (allC rs) := fun r rin c hc => by
  have g := hg r rin
  unfold usedC
  refine List.mem_filter.mpr ⟨good_in g c ?_, decide_eq_true ?_⟩
  · rw [PySem.Str.cps_append, Array.toList_append]
    exact List.mem_append_right _ hc
  · unfold allC
    refine List.mem_flatten.mpr ⟨_, List.mem_map.mpr ⟨r, rin, rfl⟩, ?_⟩
    rw [PySem.Str.cps_append, Array.toList_append]
    exact List.mem_append_right _ hc
section
variable {w : World} {K : PySem.W.Frag} {mg : Str → Option Value} {base : Heap}
theorem sc_Book_sizes_below : FnScope N_Book_sizes_below P_Book_sizes_below (defScope s_Book_sizes_below) := ⟨rfl, rfl, rfl, by decide +kernel, rfl, by decide +kernel, by decide +kernel⟩
theorem ok_Book_sizes_below (T : Txt K mg) : FnOk prg w K mg base (L2.CX prg w) 6 T.f_Book_sizes_below T.fd_Book_sizes_below P_Book_sizes_below (sp_Book_sizes_below T.c_Book T.c_Rule) := by
  refine Rz.Fun.okN T.F_Book_sizes_below sc_Book_sizes_below (fun vs H Q E h => ?_) (fun cdv A outer s H vs Q E hr h => ?_)
  · obtain ⟨b, t, D, rs, i, rfl, _⟩ := h
    rfl
  obtain ⟨b, t, D, rs, i, rfl, hB, hg, h6, Z, k⟩ := h
  have nd := sc_Book_sizes_below.nd
  refine ⟨_, (pss_one (ps_ret (pe_mt (pv 0) T.cl_Book T.M_Book_summed (ok_Book_summedT T) (hr.mono (by decide)) T.b_Book_summed .nil (fun _ => atN _) (pa_cons (pe_fld (pv 0) rfl) (pa_cons (pv 1) pa_nil))))), ?_⟩
  obtain ⟨db, tb, hb, ht, hP⟩ := id hB
  exact ⟨_, rfl, b, db, _, rfl, hb, rfl, _, rfl, b, _, db, _, _, rfl, hb, T.cl_Book, T.na_Book__rules, rfl, _, rfl, b, t, t, D, rs, rs, tb, sizesAt rs i, _, _, rfl, hB, hg, h6, ht, hP, h6, fun r h => h, Z, used_right hg, k⟩
end
end Rz

namespace Rz
open PySem PySem.Spec PyProof.Rows L2
theorem summed_out {ab : Nat → Int} {c : Nat} : ∀ {rs : List Ru}, (∀ r ∈ rs, c ∉ r.1.cps.toList) → summedOf ab rs c = 1
  | [], _ => rfl
  | r :: rs, h => by
    have a := summed_out (ab := ab) (rs := rs) fun q hq => h q (List.mem_cons_of_mem _ hq)
    have z : r.1.cps.toList.count c = 0 := List.count_eq_zero.mpr (h r List.mem_cons_self)
    unfold summedOf at a ⊢
    rw [List.map_cons, List.sum_cons, z]
    have : ((0 : Nat) : Int) * growOf ab r = 0 := by simp
    omega
theorem sizes_out {rs : List Ru} (hg : GoodB rs) {c : Nat} (h : c ∉ usedC (allC rs)) : ∀ k, sizesAt rs k c = 1 := by
  have out : ∀ r ∈ rs, c ∉ r.1.cps.toList := fun r hr hc => h (by
    unfold usedC
    refine List.mem_filter.mpr ⟨good_in (hg r hr) c ?_, decide_eq_true ?_⟩
    · rw [PySem.Str.cps_append, Array.toList_append]
      exact List.mem_append_left _ hc
    · unfold allC
      refine List.mem_flatten.mpr ⟨_, List.mem_map.mpr ⟨r, hr, rfl⟩, ?_⟩
      rw [PySem.Str.cps_append, Array.toList_append]
      exact List.mem_append_left _ hc)
  intro k
  cases k with
  | zero => exact summed_out fun r hr => out r (List.mem_filter.mp hr).1
  | succ k => exact summed_out out
def sp_Book_grown (cV cH cB cC : Addr) : Sp := fun vs H Q E => ∃ (b t : Addr) (rs : List Ru) (c : Nat) (most height : Int), vs = [.ref b, .str ⟨#[c]⟩, .int most, .int height] ∧ BkAt cB cC H b t rs ∧ GoodB rs ∧ rs.length ≤ 6 ∧ most.natAbs < 2 ^ 64 ∧ height.natAbs < 2 ^ 64 ∧
  (0 ≤ most ∧ most ≤ 8 → (0 ≤ height ∧ height ≤ most → ∀ H', Same H H' → Q (.int (sizesAt rs (most - height).toNat c)) H') ∧
    (¬ (0 ≤ height ∧ height ≤ most) → ∀ H' d, Same H H' → H d = none → H' d = some (.xd [("height", .int height)]) → E (.ref cH) (some d) H')) ∧
  (¬ (0 ≤ most ∧ most ≤ 8) → ∀ H' d, Same H H' → H d = none → H' d = some (.xd [("most", .int most)]) → E (.ref cV) (some d) H')
section
variable {w : World} {K : PySem.W.Frag} {mg : Str → Option Value} {base : Heap}
theorem sc_Book_grown : FnScope N_Book_grown P_Book_grown (defScope s_Book_grown) := ⟨rfl, rfl, rfl, by decide +kernel, rfl, by decide +kernel, by decide +kernel⟩
theorem ok_Book_grown (T : Txt K mg) : FnOk prg w K mg base (L2.CX prg w) 8 T.f_Book_grown T.fd_Book_grown P_Book_grown (sp_Book_grown T.c_BadBound T.c_BadHeight T.c_Book T.c_Rule) := by
  refine T.D_Book_grown.ok sc_Book_grown (fun vs H Q E h => ?_) (fun cdv A outer s H vs Q E hr h => ?_)
  · obtain ⟨b, t, rs, c, most, height, rfl, _⟩ := h
    rfl
  obtain ⟨b, t, rs, c, most, height, rfl, hB, hg, h6, zm, zh, kk, kV⟩ := h
  have nd := sc_Book_grown.nd
  have hu : (A.deeper (envOfC "Book.grown" (defScope s_Book_grown) s.heap.objs.size T.f_Book_grown cdv)).units + 1 < cLine := by
    have := hr.un
    omega
  obtain ⟨tG, k_GREATEST_BOUND⟩ := T.k_GREATEST_BOUND
  have tk : Takes (cxOf (L2.CX prg w) prg w K mg base N_Book_grown "Book.grown" (defScope s_Book_grown) T.f_Book_grown cdv A outer s H E) (fun cls d _ H' => E cls d H') := takes_of rfl rfl rfl rfl
  refine ⟨_, (pss_cons (ps_expr (pe_fn (ok_check_bound T) (hr.mono (by decide)) (by rfl) T.m_check_bound T.F_check_bound.kp T.b_check_bound .nil (passAt tk) (pa_cons (pv 2) (pa_cons (pe_glob (v := .int 8) (by rfl) k_GREATEST_BOUND ⟨_, rfl⟩) pa_nil))))
    (pss_cons (ps_expr (pe_fn (ok_check_height T) (hr.mono (by decide)) (by rfl) T.m_check_height T.F_check_height.kp T.b_check_height .nil (passAt tk) (pa_cons (pv 3) (pa_cons (pv 2) pa_nil))))
    (pss_cons (ps_set (i := 4) nd rfl (Or.inl rfl) (pe_mt0 (pv 0) T.cl_Book T.M_Book_sizes_at_bound (ok_Book_sizes_at_bound T) (hr.mono (by decide)) T.b_Book_sizes_at_bound .nil (fun _ => atN _)))
    (pss_cons (ps_for (passes_of rfl) rfl (pi_range1 rfl T.n_range (pa_cons (pe_op op_sub (pv 2) (pv 3)) pa_nil)) (pg_name (i := 5) nd rfl (Or.inl rfl))
      (pss_one (ps_set (i := 4) nd rfl (Or.inl rfl) (pe_mt (pv 0) T.cl_Book T.M_Book_sizes_below (ok_Book_sizes_below T) (hr.mono (by decide)) T.b_Book_sizes_below .nil (fun _ => atN _) (pa_cons (pv 4) pa_nil)))))
    (pss_one (ps_ret (pe_dget2 hu (pv 4) (pv 1) pe_int ⟨rfl, rfl, rfl, rfl⟩))))))), ?_⟩
  obtain ⟨db, tb, hb, ht, hP⟩ := id hB
  refine ⟨_, rfl, most, 8, rfl, zm, fun hin => ?_, fun hout => kV hout⟩
  obtain ⟨kg, kh⟩ := kk hin
  refine ⟨_, rfl, _, rfl, height, most, rfl, zh, fun hin2 => ?_, fun hout => kh hout⟩
  refine ⟨_, rfl, b, db, _, rfl, hb, rfl, b, t, rs, rfl, hB, hg, h6, fun H1 d1 S1 _ Z1 => ?_⟩
  refine ⟨_, rfl, _, rfl, _, _, rfl, rfl, most - height, rfl, by omega, by omega, for_range (n := (most - height).toNat) (fun i σ H' => ∃ (d : Addr) (v5 : Option V), σ = [some (.ref b), some (.str ⟨#[c]⟩), some (.int most), some (.int height), some (.ref d), v5] ∧ Same H H' ∧ SzAt H' d (usedC (allC rs)) (sizesAt rs i) 60) ⟨d1, none, rfl, S1, Z1⟩ ?_ ?_⟩
  · rintro i σ G hi ⟨d, v5, rfl, S, Z⟩
    refine ⟨_, rfl, b, db, _, rfl, S _ _ hb, rfl, _, rfl, b, t, d, rs, i, rfl, hB.same S, hg, h6, Z, fun H2 d2 S2 _ Z2 => ?_⟩
    exact ⟨d2, _, rfl, S.trans S2, Z2⟩
  rintro σ G ⟨d, v5, rfl, S, Z⟩
  refine ⟨_, rfl, d, rfl, Z.isD, _, rfl, _, Z.get c, ?_⟩
  have q := kg hin2 G S
  by_cases hc : c ∈ usedC (allC rs)
  · rw [if_pos hc]
    exact q
  · rw [if_neg hc]
    rw [sizes_out hg hc] at q
    exact q
end
end Rz

namespace Rz
open PySem PySem.Spec PyProof.Rows L2
def signC (m : Mv) : Nat := m.2.1.cps.toList.headD 0
def sizeOf (rs : List Ru) (k : Nat) (ms : List Mv) : List Int := ms.map fun m => sizesAt rs k (signC m)
def sp_machine_size (cV cB cC cL : Addr) : Sp := fun vs H Q E => ∃ (b t o : Addr) (rs : List Ru) (n : Int) (ls : List Int) (ms : List Mv) (f : List Key → Option Int) (most : Int), vs = [.ref b, .ref o, .int most] ∧ BkAt cB cC H b t rs ∧ GoodB rs ∧ rs.length ≤ 6 ∧ LtAt cL H o n ls ms f ∧ ms.length ≤ 1000 ∧ (∀ m ∈ ms, ∃ c, m.2.1 = ⟨#[c]⟩) ∧ most.natAbs < 2 ^ 64 ∧
  (0 ≤ most ∧ most ≤ 8 → ∀ H', Same H H' → Q (.int (sizeOf rs most.toNat ms).sum) H') ∧
  (¬ (0 ≤ most ∧ most ≤ 8) → ∀ H' d, Same H H' → H d = none → H' d = some (.xd [("most", .int most)]) → E (.ref cV) (some d) H')
section
variable {w : World} {K : PySem.W.Frag} {mg : Str → Option Value} {base : Heap}
/-- book.grown(sign, most=m): the height's default -/
theorem kb_grown (T : Txt K mg) : ∃ mv : List Value, KBn K T.fd_Book_grown P_Book_grown 2 ["most"] (fun us ws => us ++ ws ++ mv) (fun vs zs => vs ++ zs ++ [V.int 0]) :=
  T.D_Book_grown.kbinds0 2 ["most"] [("height", .int 0)] (fun us mz zs => us ++ zs ++ mz) (by decide) (fun q hq => hq) (fun r1 rk r2 => (r1.append r2).append rk)
    fun D doc pm an cdv ct us mv ws h1 h2 h3 => match us, mv, ws, h1, h2, h3 with | [_, _], [_], [_], _, _, _ => ⟨_, _, _, _, _, _, rfl, rfl, rfl⟩
theorem sc_machine_size : FnScope N_machine_size P_machine_size (defScope s_machine_size) := ⟨rfl, rfl, rfl, by decide +kernel, rfl, by decide +kernel, by decide +kernel⟩
theorem ok_machine_size (T : Txt K mg) : FnOk prg w K mg base (L2.CX prg w) 10 T.f_machine_size T.fd_machine_size P_machine_size (sp_machine_size T.c_BadBound T.c_Book T.c_Rule T.c_Lot) := by
  refine T.F_machine_size.okX sc_machine_size (fun vs H Q E h => ?_) (fun cdv A outer s H vs Q E hr h => ?_)
  · obtain ⟨b, t, o, rs, n, ls, ms, f, most, rfl, _⟩ := h
    rfl
  obtain ⟨b, t, o, rs, n, ls, ms, f, most, rfl, hB, hg, h6, hL, zms, hms, zm, kg, kV⟩ := h
  have nd := sc_machine_size.nd
  obtain ⟨mv, kb⟩ := kb_grown T
  obtain ⟨tG, k_GREATEST_BOUND⟩ := T.k_GREATEST_BOUND
  have tk : Takes (cxOf (L2.CX prg w) prg w K mg base N_machine_size "machine_size" (defScope s_machine_size) T.f_machine_size cdv A outer s H E) (fun cls d _ H' => E cls d H') := takes_of rfl rfl rfl rfl
  refine ⟨_, (pss_cons (ps_expr (pe_fn (ok_check_bound T) (hr.mono (by decide)) (by rfl) T.m_check_bound T.F_check_bound.kp T.b_check_bound .nil (passAt tk) (pa_cons (pv 2) (pa_cons (pe_glob (v := .int 8) (by rfl) k_GREATEST_BOUND ⟨_, rfl⟩) pa_nil))))
    (pss_one (ps_ret (pe_callB (cr_sum (by rfl)) (by rfl) T.n_sum (by decide +kernel) (pa_cons (pe_lc (own := [("_", 3), ("sign", 4)]) (g := gTup K 3 (gCons (gName 3) (gCons (gName 4) (gCons (gName 3) gNil)))) (tt := tYes) rfl nd (pi_list (pe_pr (pv 1) T.cl_Lot T.M_Lot_moves (ok_Lot_moves T) (hr.mono (by decide)) T.b_Lot_moves passN)) (blkOk_by (N := N_machine_size) (sc := defScope s_machine_size) (by decide +kernel)) (fun _ _ _ _ _ => (pg_tup rfl (pgs_cons (pg_name (i := 3) nd rfl (Or.inl rfl)) (pgs_cons (pg_name (i := 4) nd rfl (Or.inl rfl)) (pgs_cons (pg_name (i := 3) nd rfl (Or.inl rfl)) pgs_nil))))) (fun _ _ _ _ _ => pts_nil) (fun _ _ _ _ _ => (pe_mtK (pv 0) T.cl_Book T.M_Book_grown (ok_Book_grown T) (hr.mono (by decide)) kb (fun _ => atN _) (pa_cons (pv 4) pa_nil) (pk_cons (pv 2) pk_nil)))) pa_nil))))), ?_⟩
  obtain ⟨db, tb, hb, ht, hP⟩ := id hB
  obtain ⟨dx, l0, m0, d0, kvs, eo, _⟩ := id hL
  refine ⟨_, rfl, most, 8, rfl, zm, fun hin => ?_, fun hout => kV hout⟩
  refine ⟨_, rfl, o, dx, _, rfl, eo, o, n, ls, ms, f, rfl, hL, fun H1 l S1 hl ⟨ts, e1, P1⟩ => ?_⟩
  have lts := P1.len
  refine ⟨l, rfl, ⟨_, SqL.of e1⟩, fun D hD => lc_it walk_list (fun i H' => Same H1 H' ∧ H' D = some (.lst ((sizeOf rs most.toNat (ms.take i)).map V.int))) ⟨Rz.Same.new (Same.refl _) hD, upd_same⟩ (fun i H' _ h => SqL.of (h.1 _ _ e1)) ?_ ?_⟩
  · rintro i x Ga Gb hi ⟨S, e⟩ ⟨rfl, hx⟩
    obtain ⟨u, hu2, rfl⟩ := refs_get hx
    obtain ⟨m, hm2, et⟩ := P1.get hu2
    obtain ⟨c, hc⟩ := hms m (List.mem_of_getElem? hm2)
    have i1 : i < ms.length := (List.getElem?_eq_some_iff.mp hm2).1
    have sc : signC m = c := by
      unfold signC
      rw [hc]
      rfl
    have et2 := S _ _ et
    unfold mvV at et2
    rw [hc] at et2
    have S01 := S1.trans S
    refine ⟨u, _, rfl, SqT.of et2, rfl, _, _, rfl, _, _, rfl, _, _, rfl, rfl, rfl, yesT ?_⟩
    refine ⟨_, rfl, b, db, _, rfl, S01 _ _ hb, rfl, _, rfl, _, rfl, rfl, rfl, b, t, rs, c, most, 0, rfl, hB.same S01, hg, h6, zm, by decide, fun _ => ⟨fun _ H' S' => ?_, fun q => absurd ⟨Int.le_refl 0, hin.1⟩ q⟩, fun q => absurd hin q⟩
    refine ⟨_, S' _ _ e, by unfold sizeOf; rw [List.length_map, List.length_map, List.length_take, sizeLine_eq]; omega, Rz.Same.upd (S.trans S') hD, ?_⟩
    rw [upd_same, List.take_add_one, hm2]
    unfold sizeOf
    rw [List.map_append, List.map_append]
    show some (HO.lst (_ ++ [V.int (sizesAt rs (most - 0).toNat c)])) = some (.lst (_ ++ [V.int (sizesAt rs most.toNat (signC m))]))
    rw [sc, Int.sub_zero]
  · rintro G ⟨S, e⟩
    rw [List.length_map, lts, List.take_length] at e
    exact ⟨D, _, rfl, SqL.of e, kg hin _ (S1.trans S)⟩
end
end Rz

namespace Rz
open PySem PySem.Spec PyProof.Rows L2
/-! ### as data -/
theorem tn_shaped {z : Str} (n : Int) (h : PyData.strOk z = true) : SeqAt.shaped (.tuple [.str z, .int n]) = true := by
  show (PyData.canLayAll0 [PyData.str z, PyData.int n] && decide (PyData.depth (.tuple [.str z, .int n]) ≤ 64)) = true
  have h2 : PyData.depth (.tuple [.str z, .int n]) ≤ 64 := by
    show PyData.depthAll [PyData.str z, PyData.int n] + 1 ≤ 64
    simp [PyData.depthAll, PyData.depth]
  rw [decide_eq_true h2]
  simp [PyData.canLayAll0, PyData.canLay0, h]
theorem tn_at {K : PySem.W.Frag} {H : Hp} {t : Addr} {z : Str} {n : Int} (e : H t = some (.tup [.str z, .int n])) : Dp K H (.ref t) (.tuple [.str z, .int n]) := .tup (SqT.of e) (.cons (.str _) (.cons (.int _) .nil))
theorem tn_eqv (z : Str) (n : Int) : PyData.eqv (.tuple [.str z, .int n]) (.tuple [.str z, .int n]) = true := by
  show PyData.eqvAll _ _ = true
  simp [PyData.eqvAll, PyData.eqv]
/-- two such pairs compared -/
theorem tn_ne {K : PySem.W.Frag} {H : Hp} {t u : Addr} {z : Str} {n : Int} {Q : VK} (h : PyData.strOk z = true) (e1 : H t = some (.tup [.str z, .int n])) (e2 : H u = some (.tup [.str z, .int n])) (k : Q (.bl false) H) : rNeD K (.ref t) (.ref u) H Q :=
  ⟨_, _, tn_at e1, tn_at e2, tn_shaped n h, tn_shaped n h, by rw [tn_eqv]; exact k⟩
theorem tn_eq {K : PySem.W.Frag} {H : Hp} {t u : Addr} {z : Str} {n : Int} {Q : VK} (h : PyData.strOk z = true) (e1 : H t = some (.tup [.str z, .int n])) (e2 : H u = some (.tup [.str z, .int n])) (k : Q (.bl true) H) : rEqD K (.ref t) (.ref u) H Q :=
  ⟨_, _, tn_at e1, tn_at e2, tn_shaped n h, tn_shaped n h, by rw [tn_eqv]; exact k⟩
end Rz

namespace Rz
open PySem PySem.Spec PyProof.Rows L2
def sp_law_same : Sp := fun vs H Q _ => ∃ (t u : Addr) (z : Str) (n : Int), vs = [.ref t, .ref u] ∧ H t = some (.tup [.str z, .int n]) ∧ H u = some (.tup [.str z, .int n]) ∧ PyData.strOk z = true ∧ Q (.bl true) H
section
variable {w : World} {K : PySem.W.Frag} {mg : Str → Option Value} {base : Heap}
theorem sc_law_same : FnScope N__law_same P__law_same (defScope s__law_same) := ⟨rfl, rfl, rfl, by decide +kernel, rfl, by decide +kernel, by decide +kernel⟩
theorem ok_law_same (T : Txt K mg) : FnOk prg w K mg base (L2.CX prg w) 2 T.f__law_same T.fd__law_same P__law_same sp_law_same := by
  refine Rz.Fun.okN T.F__law_same sc_law_same (fun vs H Q E h => ?_) (fun cdv A outer s H vs Q E hr h => ?_)
  · obtain ⟨t, u, z, n, rfl, _⟩ := h
    rfl
  obtain ⟨t, u, z, n, rfl, e1, e2, hz, k⟩ := h
  refine ⟨_, (pss_one (ps_ret (pe_and (pe_cmpR (op_eqD hr.units) (pv 0) (pv 1) (nomark _)) (pe_one (pe_fn (ok_law_is_int T) (hr.mono (by decide)) (by rfl) T.m__law_is_int T.F__law_is_int.kp T.b__law_is_int .nil (fun _ => atN _) (pa_cons (pe_ix ix_tup (pv 0) pe_int (fun _ _ => rfl)) pa_nil)))))), ?_⟩
  exact ⟨_, rfl, _, rfl, tn_eq hz e1 e2 ⟨_, rfl, iteT ⟨_, rfl, t, _, _, _, rfl, rfl, SqT.of e1, rfl, n, rfl, k⟩⟩⟩
end
end Rz

namespace Rz
open PySem PySem.Spec PyProof.Rows L2
/-- what grown comes to -/
def gtOf (rs : List Ru) (c : Nat) (most height : Int) : Str × Int := if 0 ≤ most ∧ most ≤ 8 then (if 0 ≤ height ∧ height ≤ most then ("size", sizesAt rs (most - height).toNat c) else ("level", height)) else ("bound", most)
def sp_law_grown_told (cB cC : Addr) : Sp := fun vs H Q _ => ∃ (b t : Addr) (rs : List Ru) (c : Nat) (most height : Int), vs = [.ref b, .str ⟨#[c]⟩, .int most, .int height] ∧ BkAt cB cC H b t rs ∧ GoodB rs ∧ rs.length ≤ 6 ∧ most.natAbs < 2 ^ 60 ∧ height.natAbs < 2 ^ 60 ∧
  ∀ H' u, Same H H' → H' u = some (.tup [.str (gtOf rs c most height).1, .int (gtOf rs c most height).2]) → Q (.ref u) H'
section
variable {w : World} {K : PySem.W.Frag} {mg : Str → Option Value} {base : Heap}
theorem kb_grown2 (T : Txt K mg) : KBn K T.fd_Book_grown P_Book_grown 2 ["most", "height"] (fun us ws => us ++ ws) (fun vs zs => vs ++ zs) :=
  kbD T.D_Book_grown 2 ["most", "height"] fun _ _ _ _ _ _ us ws h1 h2 => match us, ws, h1, h2 with | [_, _], [_, _], _, _ => rfl
theorem sc_law_grown_told : FnScope N__law_grown_told P__law_grown_told (defScope s__law_grown_told) := ⟨rfl, rfl, rfl, by decide +kernel, rfl, by decide +kernel, by decide +kernel⟩
theorem ok_law_grown_told (T : Txt K mg) : FnOk prg w K mg base (L2.CX prg w) 10 T.f__law_grown_told T.fd__law_grown_told P__law_grown_told (sp_law_grown_told T.c_Book T.c_Rule) := by
  refine T.F__law_grown_told.okX sc_law_grown_told (fun vs H Q E h => ?_) (fun cdv A outer s H vs Q E hr h => ?_)
  · obtain ⟨b, t, rs, c, most, height, rfl, _⟩ := h
    rfl
  obtain ⟨b, t, rs, c, most, height, rfl, hB, hg, h6, zm, zh, k⟩ := h
  have nd := sc_law_grown_told.nd
  have two : (2 : Nat) ≤ sizeLine := by decide
  refine ⟨_, (pss_one (ps_try_mix rfl rfl takes0 (fun W pn xe tk _ => (pss_one (ps_ret (pe_tup (pa_cons pe_str (pa_cons (pe_mtK (pv 0) T.cl_Book T.M_Book_grown (ok_Book_grown T) (hr.mono (by decide)) (kb_grown2 T) (passAt tk) (pa_cons (pv 1) pa_nil) (pk_cons (pv 2) (pk_cons (pv 3) pk_nil))) pa_nil))))))
      (HdsM.named (i := 4) nd rfl rfl ⟨rfl, by decide, .inl T.m_BadBound⟩ (fun a oe cls d pn hz hf => (pss_one (ps_ret (pe_tup (pa_cons pe_str (pa_cons (pe_xf T.x_BadBound.xf T.x_BadBound.noN hz hf (pv 4)) pa_nil))))))
      (HdsM.named (i := 5) nd rfl rfl ⟨rfl, by decide, .inl T.m_BadHeight⟩ (fun a oe cls d pn hz hf => (pss_one (ps_ret (pe_tup (pa_cons pe_str (pa_cons (pe_xf T.x_BadHeight.xf T.x_BadHeight.noN hz hf (pv 5)) pa_nil))))))
      HdsM.nil)))), ?_⟩
  obtain ⟨db, tb, hbk, ht, hP⟩ := id hB
  refine ⟨_, rfl, b, db, _, rfl, hbk, rfl, _, rfl, _, rfl, _, rfl, rfl, rfl, b, t, rs, c, most, height, rfl, hB, hg, h6, by omega, by omega, fun h8 => ⟨fun hin H1 S1 => ?_, fun hout H1 d S1 hd e => ?_⟩, fun hout H1 d S1 hd e => ?_⟩
  · exact ⟨two, fun t ht => k _ t (Rz.Same.new S1 ht) (by unfold gtOf; rw [if_pos h8, if_pos hin]; exact upd_same)⟩
  · refine ⟨false, T.em_BadHeight_BadBound, (fun z => nomatch z), fun _ => ⟨true, T.em_BadHeight_BadHeight, fun _ a ha => ?_, fun z => nomatch z⟩⟩
    exact ⟨_, rfl, rfl, rfl, d, _, _, rfl, e, rfl, two, fun t ht => k _ t (Rz.Same.new S1 ht) (by unfold gtOf; rw [if_pos h8, if_neg hout]; exact upd_same)⟩
  · refine ⟨true, T.em_BadBound_BadBound, fun _ a ha => ?_, fun z => nomatch z⟩
    exact ⟨_, rfl, rfl, rfl, d, _, _, rfl, e, rfl, two, fun t ht => k _ t (Rz.Same.new S1 ht) (by unfold gtOf; rw [if_neg hout]; exact upd_same)⟩
end
end Rz

namespace Rz
open PySem PySem.Spec PyProof.Rows L2
/-- what machine_size comes to -/
def askOf (rs : List Ru) (ms : List Mv) (most : Int) : Str × Int := if 0 ≤ most ∧ most ≤ 8 then ("size", (sizeOf rs most.toNat ms).sum) else ("bound", most)
def sp_law_asked (cB cC cL : Addr) : Sp := fun vs H Q _ => ∃ (b t o : Addr) (rs : List Ru) (n : Int) (ls : List Int) (ms : List Mv) (f : List Key → Option Int) (most : Int), vs = [.ref b, .ref o, .int most] ∧ BkAt cB cC H b t rs ∧ GoodB rs ∧ rs.length ≤ 6 ∧ LtAt cL H o n ls ms f ∧ ms.length ≤ 1000 ∧ (∀ m ∈ ms, ∃ c, m.2.1 = ⟨#[c]⟩) ∧ most.natAbs < 2 ^ 60 ∧
  ∀ H' u, Same H H' → H' u = some (.tup [.str (askOf rs ms most).1, .int (askOf rs ms most).2]) → Q (.ref u) H'
section
variable {w : World} {K : PySem.W.Frag} {mg : Str → Option Value} {base : Heap}
theorem kb_machine (T : Txt K mg) : KBn K T.fd_machine_size P_machine_size 2 ["most"] (fun us ws => us ++ ws) (fun vs zs => vs ++ zs) :=
  kbF T.F_machine_size 2 ["most"] fun _ _ _ _ _ _ us ws h1 h2 => match us, ws, h1, h2 with | [_, _], [_], _, _ => rfl
theorem sc_law_asked : FnScope N__law_asked P__law_asked (defScope s__law_asked) := ⟨rfl, rfl, rfl, by decide +kernel, rfl, by decide +kernel, by decide +kernel⟩
theorem ok_law_asked (T : Txt K mg) : FnOk prg w K mg base (L2.CX prg w) 12 T.f__law_asked T.fd__law_asked P__law_asked (sp_law_asked T.c_Book T.c_Rule T.c_Lot) := by
  refine T.F__law_asked.okX sc_law_asked (fun vs H Q E h => ?_) (fun cdv A outer s H vs Q E hr h => ?_)
  · obtain ⟨b, t, o, rs, n, ls, ms, f, most, rfl, _⟩ := h
    rfl
  obtain ⟨b, t, o, rs, n, ls, ms, f, most, rfl, hB, hg, h6, hL, zms, hms, zm, k⟩ := h
  have nd := sc_law_asked.nd
  have two : (2 : Nat) ≤ sizeLine := by decide
  refine ⟨_, (pss_one (ps_try_mix rfl rfl takes0 (fun W pn xe tk _ => (pss_one (ps_ret (pe_tup (pa_cons pe_str (pa_cons (pe_fnK (ok_machine_size T) (hr.mono (by decide)) (by rfl) T.m_machine_size T.F_machine_size.kp (kb_machine T) (passAt tk) (pa_cons (pv 0) (pa_cons (pv 1) pa_nil)) (pk_cons (pv 2) pk_nil)) pa_nil))))))
      (HdsM.named (i := 3) nd rfl rfl ⟨rfl, by decide, .inl T.m_BadBound⟩ (fun a oe cls d pn hz hf => (pss_one (ps_ret (pe_tup (pa_cons pe_str (pa_cons (pe_xf T.x_BadBound.xf T.x_BadBound.noN hz hf (pv 3)) pa_nil))))))
      HdsM.nil))), ?_⟩
  refine ⟨_, rfl, _, rfl, _, rfl, rfl, rfl, b, t, o, rs, n, ls, ms, f, most, rfl, hB, hg, h6, hL, zms, hms, by omega, fun hin H1 S1 => ?_, fun hout H1 d S1 hd e => ?_⟩
  · exact ⟨two, fun t ht => k _ t (Rz.Same.new S1 ht) (by unfold askOf; rw [if_pos hin]; exact upd_same)⟩
  · refine ⟨true, T.em_BadBound_BadBound, fun _ a ha => ?_, fun z => nomatch z⟩
    exact ⟨_, rfl, rfl, rfl, d, _, _, rfl, e, rfl, two, fun t ht => k _ t (Rz.Same.new S1 ht) (by unfold askOf; rw [if_neg hout]; exact upd_same)⟩
end
end Rz

namespace Rz
open PySem PySem.Spec PyProof.Rows L2
/-! ### the table of sizes, level by level -/
def abvOf (rs : List Ru) : Nat → Nat → Int
  | 0 => fun _ => 0
  | k + 1 => sizesAt rs k
def cntOf (k : Nat) (rs : List Ru) : List Ru := if k = 0 then erasing rs else rs
theorem sizesAt_eq (rs : List Ru) (k : Nat) : sizesAt rs k = summedOf (abvOf rs k) (cntOf k rs) := by cases k <;> rfl
theorem cnt_snoc {rs : List Ru} {i : Nat} {r : Ru} (k : Nat) (h : rs[i]? = some r) : cntOf k (rs.take (i + 1)) = cntOf k (rs.take i) ++ (if k = 0 → r.2.length = 0 then [r] else []) := by
  unfold cntOf
  rw [List.take_add_one, h]
  by_cases k0 : k = 0
  · rw [if_pos k0, if_pos k0]
    unfold erasing
    rw [List.filter_append]
    congr 1
    by_cases z : r.2.length = 0
    · rw [if_pos (fun _ => z)]
      show List.filter _ [r] = [r]
      rw [List.filter_cons_of_pos (by simpa using z)]
      rfl
    · rw [if_neg (fun q => z (q k0))]
      show List.filter _ [r] = []
      rw [List.filter_cons_of_neg (by simpa using z)]
      rfl
  · rw [if_neg k0, if_neg k0, if_pos (fun q => absurd q k0)]
    rfl
theorem cnt_of (c : Nat) : ∀ l : List Nat, PyProof.Rows.cnt c l = ((l.count c : Nat) : Int)
  | [] => rfl
  | n :: r => by
    rw [PyProof.Rows.cnt_cons, cnt_of c r, List.count_cons]
    by_cases h : n = c
    · rw [if_pos h, if_pos (by simpa using h)]
      omega
    · rw [if_neg h, if_neg (by simpa using h)]
      omega
theorem count_list (x : Str) (c : Nat) : Txt.count x ⟨#[c]⟩ = ((x.cps.toList.count c : Nat) : Int) := by
  rw [PyProof.Rows.count_cnt, cnt_of]
theorem SzAt.push {H : Hp} {D : Addr} {cs : List Nat} {g : Nat → Int} {N : Nat} (h : SzAt H D cs g N) (hN : N ≤ 10000) (c : Nat) : ∃ H' o, DPut H D (.str ⟨#[c]⟩) (.int (g c)) H' ∧ SzAt H' D (cs ++ [c]) g (N + 1) ∧ H' = upd H D o := by
  obtain ⟨kvs, e, l, hv⟩ := h
  refine ⟨_, _, DPut.k (k := .inr ⟨#[c]⟩) e (by rw [sizeLine_eq]; omega), ⟨_, upd_same, Nat.le_trans (length_putK _ _ _) (by omega), fun x => ?_⟩, rfl⟩
  rw [valV_put, hv]
  by_cases q : x = c
  · subst q
    rw [if_pos rfl, if_pos (by simp)]
  · have q2 : ¬ (Sum.inr (⟨#[x]⟩ : Str) : Key) = .inr ⟨#[c]⟩ := fun z => q (by
      injection z with z
      have z2 := congrArg (fun s : Str => s.cps.toList) z
      exact (List.cons.inj z2).1)
    rw [if_neg q2]
    by_cases m : x ∈ cs
    · rw [if_pos m, if_pos (List.mem_append_left _ m)]
    · rw [if_neg m, if_neg (fun z => (List.mem_append.mp z).elim m fun z => q (by simpa using z))]
theorem len0_ne {r : Str} : V.str r = V.str "" ↔ r.length = 0 := by
  constructor
  · intro h
    injection h with h
    rw [h]
    rfl
  · intro h
    obtain ⟨⟨cs⟩⟩ := r
    have e : cs = [] := List.eq_nil_of_length_eq_zero h
    rw [e]
    rfl
def sp_law_size_table : Sp := fun vs H Q _ => ∃ (l : Addr) (z : Str) (rs : List Ru) (b : Int), vs = [.ref l, .str z, .int b] ∧ SAt H l rs ∧ GoodB rs ∧ OvB z rs ∧ rs.length ≤ 6 ∧ z.length ≤ 10 ∧ 0 ≤ b ∧ b ≤ 8 ∧
  ∀ H' D, Same H H' → SzAt H' D z.cps.toList (sizesAt rs b.toNat) 10 → Q (.ref D) H'
section
variable {w : World} {K : PySem.W.Frag} {mg : Str → Option Value} {base : Heap}
theorem sc_law_size_table : FnScope N__law_size_table P__law_size_table (defScope s__law_size_table) := ⟨rfl, rfl, rfl, by decide +kernel, rfl, by decide +kernel, by decide +kernel⟩
theorem ok_law_size_table (T : Txt K mg) : FnOk prg w K mg base (L2.CX prg w) 2 T.f__law_size_table T.fd__law_size_table P__law_size_table sp_law_size_table := by
  refine Rz.Fun.okN T.F__law_size_table sc_law_size_table (fun vs H Q E h => ?_) (fun cdv A outer s H vs Q E hr h => ?_)
  · obtain ⟨l, z, rs, b, rfl, _⟩ := h
    rfl
  obtain ⟨l, z, rs, b, rfl, hS, hg, hO, h6, hz, b0, b8, k⟩ := h
  have nd := sc_law_size_table.nd
  have hu : (A.deeper (envOfC "_law_size_table" (defScope s__law_size_table) s.heap.objs.size T.f__law_size_table cdv)).units + 1 < cLine := by
    have := hr.un
    omega
  refine ⟨_, (pss_cons (ps_set (i := 3) nd rfl (Or.inr rfl) pe_dnewK)
    (pss_cons (ps_for PassesOwn.never rfl (pi_range1 rfl T.n_range (pa_cons (pe_op op_add (pv 2) pe_int) pa_nil)) (pg_name (i := 4) nd rfl (Or.inl rfl))
      (pss_cons (ps_set (i := 5) nd rfl (Or.inl rfl) pe_dnewK)
      (pss_cons (ps_for PassesOwn.never rfl (pi_str (pv 1)) (pg_name (i := 6) nd rfl (Or.inl rfl))
        (pss_cons (ps_set (i := 7) nd rfl (Or.inl rfl) pe_int)
        (pss_cons (ps_for PassesOwn.never rfl (pi_list (pv 0)) (pg_tup rfl (pgs_cons (pg_name (i := 8) nd rfl (Or.inl rfl)) (pgs_cons (pg_name (i := 9) nd rfl (Or.inl rfl)) pgs_nil)))
          (pss_one (ps_if (PW.pt (pw_or (pt_cmpR op_eq (pv 9) pe_str (nomark _)) (pw_or1 (pt_cmpR op_gt (pv 4) pe_int (nomark _))))) (pss_cons (ps_set (i := 11) nd rfl (Or.inl rfl) (pe_op op_add (pe_op op_sub (pe_callB call_len_str (by rfl) T.n_len PySem.boot_len (pa_cons (pv 8) pa_nil)) pe_int) (pe_callB (cr_sum (by rfl)) (by rfl) T.n_sum (by decide +kernel) (pa_cons (pe_lc (own := [("_law_other", 10)]) (g := (gName 10)) (tt := tYes) rfl nd (pi_str (pv 9)) (blkOk_by (N := N__law_size_table) (sc := defScope s__law_size_table) (by decide +kernel)) (fun _ _ _ _ _ => (pg_name (i := 10) nd rfl (Or.inl rfl))) (fun _ _ _ _ _ => pts_nil) (fun _ _ _ _ _ => (pe_dget hu (pv 3) (pv 10) (fun _ _ => rfl)))) pa_nil))))
            (pss_one (ps_set (i := 7) nd rfl (Or.inl rfl) (pe_op op_add (pv 7) (pe_op op_mul (pe_bm PySem.F.plainAttrs_str PySem.F.slot_str_count PySem.F.type_str_count mt_count (pv 8) (pa_cons (pv 6) pa_nil)) (pv 11)))))) pss_nil)))
        (pss_one (ps_dput hu (pv 5) (pv 6) (pv 7) rfl)))))
      (pss_one (ps_set (i := 3) nd rfl (Or.inr rfl) (pv 5))))))
    (pss_one (ps_ret (pv 3))))), ?_⟩
  obtain ⟨ts, el, hP⟩ := id hS
  have lP := hP.len
  have sz : z.cps.size = z.cps.toList.length := Array.length_toList.symm
  have zl : z.cps.toList.length = z.length := len_list z
  refine fun D0 hD0 => ?_
  have S0 := Rz.Same.new (o := .dK []) (Same.refl H) hD0
  refine ⟨_, rfl, _, _, rfl, rfl, b + 1, rfl, by omega, by omega, for_range (n := (b + 1).toNat) (fun i σ H' => ∃ (D : Addr) (v4 v5 v6 v7 v8 v9 v11 : Option V), σ = [some (.ref l), some (.str z), some (.int b), some (.ref D), v4, v5, v6, v7, v8, v9, none, v11] ∧ Same H H' ∧ SzAt H' D (if i = 0 then [] else z.cps.toList) (abvOf rs i) 10)
    ⟨D0, none, none, none, none, none, none, none, rfl, S0, [], upd_same, by decide, fun c => by rw [if_neg (by simp)]; rfl⟩ ?_ ?_⟩
  · rintro i σ G0 hi ⟨D, v4, v5, v6, v7, v8, v9, v11, rfl, SG0, Z0⟩
    refine fun E hE => ?_
    have nDE : D ≠ E := fun q => by
      obtain ⟨kvs, e, _⟩ := Z0
      rw [q, hE] at e
      cases e
    refine ⟨_, rfl, z, rfl, for_it walk_str (fun j σ H' => ∃ (v6 v7 v8 v9 v11 : Option V), σ = [some (.ref l), some (.str z), some (.int b), some (.ref D), some (.int (0 + (i : Nat))), some (.ref E), v6, v7, v8, v9, none, v11] ∧ Same G0 H' ∧ SzAt H' E (z.cps.toList.take j) (sizesAt rs i) j)
      ⟨v6, v7, v8, v9, v11, rfl, Rz.Same.new (Same.refl _) hE, [], upd_same, Nat.le_refl _, fun c => by rw [List.take_zero, if_neg (by simp)]; rfl⟩ (fun _ _ _ _ _ => trivial) ?_ ?_⟩
    · rintro j x σ G1 G1' hj ⟨v6, v7, v8, v9, v11, rfl, S1, Z1⟩ ⟨rfl, c, hc, rfl⟩
      have hc2 : z.cps.toList[j]? = some c := by rw [Array.getElem?_toList]; exact hc
      have SH1 := SG0.trans S1
      have el1 := SH1 _ _ el
      refine ⟨_, rfl, l, rfl, ⟨_, SqL.of el1⟩, for_it (walk_list (xs := ts.map V.ref)) (fun m σ H' => ∃ (v8 v9 v11 : Option V), σ = [some (.ref l), some (.str z), some (.int b), some (.ref D), some (.int (0 + (i : Nat))), some (.ref E), some (.str ⟨#[c]⟩), some (.int (summedOf (abvOf rs i) (cntOf i (rs.take m)) c)), v8, v9, none, v11] ∧ Same G1' H')
        ⟨v8, v9, v11, by rw [show cntOf i (rs.take 0) = [] by unfold cntOf; split <;> rfl]; rfl, Same.refl _⟩ (fun m σ H' _ h => ?_) ?_ ?_⟩
      · obtain ⟨_, _, _, _, S⟩ := h
        exact SqL.of (S _ _ el1)
      · rintro m x σ G2 G2' hm ⟨v8, v9, v11, rfl, S2⟩ ⟨rfl, hx⟩
        obtain ⟨t, ht, rfl⟩ := refs_get hx
        obtain ⟨r, hr2, et⟩ := hP.get ht
        have rin := List.mem_of_getElem? hr2
        have et2 : G2' t = some (.tup [.str r.1, .str r.2]) := S2 _ _ (SH1 _ _ et)
        have g4 := good_len (hg r rin)
        have l1 : r.1.length ≤ sizeLine := by rw [sizeLine_eq]; omega
        refine ⟨t, _, rfl, SqT.of et2, rfl, _, _, rfl, _, _, rfl, rfl, ?_⟩
        refine ⟨_, rfl, rfl, _, rfl, ?_⟩
        by_cases ok : i = 0 → r.2.length = 0
        · rcases Nat.eq_zero_or_pos r.2.length with e0 | e0
          case' inl =>
            rw [decide_eq_true (len0_ne.mpr e0)]
            refine iteT (iteT ?_)
          case' inr =>
            rw [decide_eq_false (fun q => Nat.ne_of_gt e0 (len0_ne.mp q))]
            refine iteF ⟨_, rfl, _, _, rfl, rfl, _, rfl, ?_⟩
            rw [decide_eq_true (show (0 + (i : Nat) : Int) > 0 from by
              have : i ≠ 0 := fun q => Nat.ne_of_gt e0 (ok q)
              omega)]
            refine iteT ?_
          all_goals
            refine ⟨_, rfl, r.1, rfl, l1, _, _, rfl, rfl, ?_⟩
            refine ⟨_, rfl, r.2, rfl, fun A0 hA0 => lc_it walk_str (fun q H' => Same G2' H' ∧ H' A0 = some (.lst (((r.2.cps.toList.take q).map (abvOf rs i)).map V.int))) ⟨Rz.Same.new (Same.refl _) hA0, upd_same⟩ (fun _ _ _ _ => trivial) ?_ ?_⟩
            · rintro q x Ga Gb hq ⟨Sq, eq⟩ ⟨rfl, c2, hc2', rfl⟩
              have hc3 : r.2.cps.toList[q]? = some c2 := by rw [Array.getElem?_toList]; exact hc2'
              have cin : c2 ∈ z.cps.toList := (hO r rin).2 c2 (List.mem_of_getElem? hc3)
              have lq := (List.getElem?_eq_some_iff.mp hc3).1
              rw [len_list] at lq
              have ne0 : i ≠ 0 := fun q0 => by
                have := ok q0
                omega
              have Zq := Z0.same ((S1.trans S2).trans Sq)
              rw [if_neg ne0] at Zq
              refine ⟨rfl, yesT ⟨_, rfl, _, rfl, D, _, rfl, Zq.get1 cin, _, eq, ?_, Rz.Same.upd Sq hA0, ?_⟩⟩
              · rw [List.length_map, List.length_map, List.length_take, sizeLine_eq]
                omega
              · rw [upd_same, List.take_add_one, hc3, List.map_append, List.map_append]
                rfl
            rintro G3 ⟨S3, e3⟩
            rw [show r.2.cps.size = r.2.cps.toList.length from Array.length_toList.symm, List.take_length] at e3
            refine ⟨A0, _, rfl, SqL.of e3, _, _, rfl, rfl, ?_⟩
            have eg : (r.1.length : Int) - 1 + (r.2.cps.toList.map (abvOf rs i)).sum = growOf (abvOf rs i) r := rfl
            show gName 11 (V.int ((r.1.length : Int) - 1 + (r.2.cps.toList.map (abvOf rs i)).sum)) _ _ _
            rw [eg]
            have c4 := List.count_le_length (l := r.1.cps.toList) (a := c)
            rw [len_list] at c4
            refine ⟨_, rfl, _, rfl, rfl, _, rfl, r.1, ⟨#[c]⟩, rfl, rfl, _, rfl, _, _, rfl, rfl, .inl ?_, _, _, rfl, rfl, ?_⟩
            · rw [count_list]
              constructor <;> omega
            refine ⟨some (.str r.1), some (.str r.2), some (.int (growOf (abvOf rs i) r)), ?_, S2.trans S3⟩
            rw [cnt_snoc i hr2, if_pos ok, summed_snoc, ← count_list]
            rfl
        · have i0 : i = 0 := Classical.byContradiction fun q => ok fun e => absurd e q
          have r0 : r.2.length ≠ 0 := fun q => ok fun _ => q
          rw [decide_eq_false (fun q => r0 (len0_ne.mp q))]
          refine iteF ⟨_, rfl, _, _, rfl, rfl, _, rfl, ?_⟩
          rw [decide_eq_false (show ¬ (0 + (i : Nat) : Int) > 0 from by omega)]
          refine iteF ⟨some (.str r.1), some (.str r.2), v11, ?_, S2⟩
          rw [cnt_snoc i hr2, if_neg ok, List.append_nil]
          rfl
      · rintro σ G ⟨v8, v9, v11, hσ, S⟩
        rw [List.length_map, lP, List.take_length, ← sizesAt_eq] at hσ
        subst hσ
        have j10 : j < z.cps.toList.length := (List.getElem?_eq_some_iff.mp hc2).1
        obtain ⟨G5, o5, hp5, Z5, e5⟩ := (Z1.same S).push (by omega) c
        subst e5
        refine ⟨_, rfl, _, rfl, _, rfl, E, _, rfl, hp5, ?_⟩
        refine ⟨_, _, _, _, _, rfl, Rz.Same.upd (S1.trans S) hE, ?_⟩
        rw [List.take_add_one, hc2]
        exact Z5
    · rintro σ G ⟨v6, v7, v8, v9, v11, rfl, S, Z⟩
      rw [sz, List.take_length] at Z
      refine ⟨_, rfl, E, _, _, _, _, _, _, _, rfl, SG0.trans S, ?_⟩
      rw [if_neg (Nat.succ_ne_zero i)]
      exact Z.more (by omega)
  · rintro σ G ⟨D, v4, v5, v6, v7, v8, v9, v11, rfl, S, Z⟩
    have e1 : (b + 1).toNat = b.toNat + 1 := by omega
    rw [e1, if_neg (by omega)] at Z
    exact ⟨_, rfl, k _ _ S Z⟩
end
end Rz

namespace Rz
open PySem PySem.Spec PyProof.Rows L2
def sp_law_due_of : Sp := fun vs H Q _ => ∃ (l : Addr) (z : Str) (rs : List Ru) (c : Nat) (b h : Int), vs = [.ref l, .str z, .str ⟨#[c]⟩, .int b, .int h] ∧ SAt H l rs ∧ GoodB rs ∧ OvB z rs ∧ rs.length ≤ 6 ∧ z.length ≤ 10 ∧ c ∈ z.cps.toList ∧
  ∀ H' u, Same H H' → H' u = some (.tup [.str (gtOf rs c b h).1, .int (gtOf rs c b h).2]) → Q (.ref u) H'
section
variable {w : World} {K : PySem.W.Frag} {mg : Str → Option Value} {base : Heap}
theorem sc_law_due_of : FnScope N__law_due_of P__law_due_of (defScope s__law_due_of) := ⟨rfl, rfl, rfl, by decide +kernel, rfl, by decide +kernel, by decide +kernel⟩
theorem ok_law_due_of (T : Txt K mg) : FnOk prg w K mg base (L2.CX prg w) 4 T.f__law_due_of T.fd__law_due_of P__law_due_of sp_law_due_of := by
  refine Rz.Fun.okN T.F__law_due_of sc_law_due_of (fun vs H Q E h => ?_) (fun cdv A outer s H vs Q E hr h => ?_)
  · obtain ⟨l, z, rs, c, b, h, rfl, _⟩ := h
    rfl
  obtain ⟨l, z, rs, c, b, h, rfl, hS, hg, hO, h6, hz, hc, k⟩ := h
  have nd := sc_law_due_of.nd
  have two : (2 : Nat) ≤ sizeLine := by decide
  have hu : (A.deeper (envOfC "_law_due_of" (defScope s__law_due_of) s.heap.objs.size T.f__law_due_of cdv)).units + 1 < cLine := by
    have := hr.un
    omega
  refine ⟨_, (pss_cons (ps_if (PW.pt (pw_or (pt_cmpR op_lt (pv 3) pe_int (nomark _)) (pw_or1 (pt_cmpR op_gt (pv 3) pe_int (nomark _))))) (pss_one (ps_ret (pe_tup (pa_cons pe_str (pa_cons (pv 3) pa_nil))))) pss_nil)
    (pss_cons (ps_if (PW.pt (pw_or (pt_cmpR op_lt (pv 4) pe_int (nomark _)) (pw_or1 (pt_cmpR op_gt (pv 4) (pv 3) (nomark _))))) (pss_one (ps_ret (pe_tup (pa_cons pe_str (pa_cons (pv 4) pa_nil))))) pss_nil)
    (pss_one (ps_ret (pe_tup (pa_cons pe_str (pa_cons (pe_dget hu (pe_fn (ok_law_size_table T) (hr.mono (by decide)) (by rfl) T.m__law_size_table T.F__law_size_table.kp T.b__law_size_table .nil (fun _ => atN _) (pa_cons (pv 0) (pa_cons (pv 1) (pa_cons (pe_op op_sub (pv 3) (pv 4)) pa_nil)))) (pv 2) (fun _ _ => rfl)) pa_nil))))))), ?_⟩
  refine ⟨_, rfl, _, _, rfl, rfl, _, rfl, ite2 (fun h1 => ?_) (fun h1 => ⟨_, rfl, _, _, rfl, rfl, _, rfl, ite2 (fun h2 => ?_) (fun h2 => ?_)⟩)⟩
  · have q := of_decide_eq_true h1
    exact iteT ⟨_, rfl, two, fun t ht => k _ t (Rz.Same.new (Same.refl H) ht) (by unfold gtOf; rw [if_neg (by omega)]; exact upd_same)⟩
  · have q := of_decide_eq_true h2
    exact ⟨_, rfl, two, fun t ht => k _ t (Rz.Same.new (Same.refl H) ht) (by unfold gtOf; rw [if_neg (by omega)]; exact upd_same)⟩
  have hb : 0 ≤ b ∧ b ≤ 8 := by
    have q1 : ¬ b < 0 := fun z => h1 (decide_eq_true z)
    have q2 : ¬ b > 8 := fun z => h2 (decide_eq_true z)
    omega
  refine ⟨_, rfl, _, _, rfl, rfl, _, rfl, ite2 (fun h3 => ?_) (fun h3 => ⟨_, rfl, _, rfl, _, _, rfl, rfl, _, rfl, ite2 (fun h4 => ?_) (fun h4 => ?_)⟩)⟩
  · have q := of_decide_eq_true h3
    exact iteT ⟨_, rfl, two, fun t ht => k _ t (Rz.Same.new (Same.refl H) ht) (by unfold gtOf; rw [if_pos hb, if_neg (by omega)]; exact upd_same)⟩
  · have q := of_decide_eq_true h4
    exact ⟨_, rfl, two, fun t ht => k _ t (Rz.Same.new (Same.refl H) ht) (by unfold gtOf; rw [if_pos hb, if_neg (by omega)]; exact upd_same)⟩
  have hh : 0 ≤ h ∧ h ≤ b := by
    have q1 : ¬ h < 0 := fun z => h3 (decide_eq_true z)
    have q2 : ¬ h > b := fun z => h4 (decide_eq_true z)
    omega
  refine ⟨_, rfl, _, rfl, _, rfl, _, rfl, _, _, rfl, rfl, l, z, rs, b - h, rfl, hS, hg, hO, h6, hz, by omega, by omega, fun H1 D S1 Z1 => ⟨_, rfl, D, _, rfl, Z1.get1 hc, two, fun t ht => ?_⟩⟩
  exact k _ t (Rz.Same.new S1 ht) (by unfold gtOf; rw [if_pos hb, if_pos hh]; exact upd_same)
end
end Rz

namespace Rz
open PySem PySem.Spec PyProof.Rows L2
/-! ### what is sorted is one list -/
theorem pw_one {α : Type} {R : α → α → Prop} (as : ∀ a b, R a b → R b a → a = b) : ∀ {xs ys : List α}, xs.Pairwise R → ys.Pairwise R → xs.Nodup → ys.Nodup → (∀ a, a ∈ xs ↔ a ∈ ys) → xs = ys
  | [], [], _, _, _, _, _ => rfl
  | [], y :: b, _, _, _, _, h => absurd ((h y).mpr List.mem_cons_self) (by simp)
  | x :: a, [], _, _, _, _, h => absurd ((h x).mp List.mem_cons_self) (by simp)
  | x :: a, y :: b, ha, hb, na, nb, h => by
    obtain ⟨a1, a2⟩ := List.pairwise_cons.mp ha
    obtain ⟨b1, b2⟩ := List.pairwise_cons.mp hb
    obtain ⟨c1, c2⟩ := List.nodup_cons.mp na
    obtain ⟨d1, d2⟩ := List.nodup_cons.mp nb
    have e : x = y := by
      rcases List.mem_cons.mp ((h y).mpr List.mem_cons_self) with e | e
      · exact e.symm
      · rcases List.mem_cons.mp ((h x).mp List.mem_cons_self) with f | f
        · exact f
        · exact as _ _ (a1 y e) (b1 x f)
    subst e
    refine congrArg (x :: ·) (pw_one as a2 b2 c2 d2 fun z => ⟨fun hz => ?_, fun hz => ?_⟩)
    · rcases List.mem_cons.mp ((h z).mp (List.mem_cons_of_mem _ hz)) with f | f
      · exact absurd (f ▸ hz) c1
      · exact f
    · rcases List.mem_cons.mp ((h z).mpr (List.mem_cons_of_mem _ hz)) with f | f
      · exact absurd (f ▸ hz) d1
      · exact f
theorem lt_nodup {xs : List Int} (h : xs.Pairwise (· < ·)) : xs.Nodup := h.imp fun q => by omega
theorem srtI_one {ns xs ys : List Int} (a : SrtI ns xs) (b : SrtI ns ys) : xs = ys :=
  pw_one (fun x y p q => by omega) a.1 b.1 (lt_nodup a.1) (lt_nodup b.1) fun k => (a.2 k).trans (b.2 k).symm
theorem mk_nodup {qs : List Mv} (h : qs.Nodup) : (qs.map mvK).Nodup := by
  rw [List.Nodup, List.pairwise_map]
  exact h.imp fun n e => n (mvK_inj e)
theorem mk_map : ∀ {qs rs : List Mv}, qs.map mvK = rs.map mvK → qs = rs
  | [], [], _ => rfl
  | [], _ :: _, h => by cases h
  | _ :: _, [], h => by cases h
  | x :: a, y :: b, h => by
    rw [List.map_cons, List.map_cons] at h
    injection h with h1 h2
    rw [mvK_inj h1, mk_map h2]
theorem mk_mem {zs : List Mv} {y : Mv} : mvK y ∈ zs.map mvK ↔ y ∈ zs := ⟨fun h => by
  obtain ⟨x, hx, e⟩ := List.mem_map.mp h
  rw [← mvK_inj e]
  exact hx, fun h => List.mem_map.mpr ⟨y, h, rfl⟩⟩
theorem srtM_one {ms qs rs : List Mv} (a : SrtM ms qs) (b : SrtM ms rs) : qs = rs := by
  refine mk_map (keys_one a.1 b.1 (mk_nodup a.2.1) (mk_nodup b.2.1) fun k => ⟨fun h => ?_, fun h => ?_⟩)
  · obtain ⟨y, hy, rfl⟩ := List.mem_map.mp h
    exact mk_mem.mpr ((b.2.2 y).mpr ((a.2.2 y).mp hy))
  · obtain ⟨y, hy, rfl⟩ := List.mem_map.mp h
    exact mk_mem.mpr ((a.2.2 y).mpr ((b.2.2 y).mp hy))
theorem lead_same {a b : List Mv} (h : okLeads a) (m : ∀ x, x ∈ a ↔ x ∈ b) (k : List Key) : Lead a k = Lead b k := by
  cases ea : Lead a k with
  | some t =>
    obtain ⟨x, hx, e1, e2⟩ := lead_mem ea
    cases eb : Lead b k with
    | some u =>
      obtain ⟨y, hy, f1, f2⟩ := lead_mem eb
      have := h.2 x hx y ((m y).mpr hy) (e1.trans f1.symm)
      rw [← e2, ← f2, this]
    | none =>
      exfalso
      unfold Lead at eb
      rw [Option.map_eq_none_iff, List.find?_eq_none] at eb
      exact eb x ((m x).mp hx) (decide_eq_true e1)
  | none =>
    cases eb : Lead b k with
    | none => rfl
    | some u =>
      exfalso
      obtain ⟨y, hy, f1, f2⟩ := lead_mem eb
      unfold Lead at ea
      rw [Option.map_eq_none_iff, List.find?_eq_none] at ea
      exact ea y ((m y).mpr hy) (decide_eq_true f1)
end Rz

namespace Rz
open PySem PySem.Spec PyProof.Rows L2
/-! pairs of numbers -/
def prN (q : Nat × Nat) : List V := [.int (q.1 : Nat), .int (q.2 : Nat)]
def NpL (H : Hp) (ts : List Addr) (qs : List (Nat × Nat)) : Prop := Paired (fun (t : Addr) (q : Nat × Nat) => H t = some (.tup (prN q))) ts qs
theorem NpL.keep {H H' : Hp} (h : Tups H H') : ∀ {ts : List Addr} {qs : List (Nat × Nat)}, NpL H ts qs → NpL H' ts qs
  | _, _, .nil => .nil
  | _, _, .cons e r => .cons (h _ _ e) (NpL.keep h r)
theorem NpL.len {H : Hp} {ts : List Addr} {qs : List (Nat × Nat)} (h : NpL H ts qs) : ts.length = qs.length := Paired.length h
theorem NpL.append {H : Hp} : ∀ {ts us : List Addr} {qs zs : List (Nat × Nat)}, NpL H ts qs → NpL H us zs → NpL H (ts ++ us) (qs ++ zs)
  | _, _, _, _, .nil, s => s
  | _, _, _, _, .cons e t, s => .cons e (NpL.append t s)
theorem NpL.get {H : Hp} : ∀ {ts : List Addr} {qs : List (Nat × Nat)} {i : Nat} {t : Addr}, NpL H ts qs → ts[i]? = some t → ∃ q, qs[i]? = some q ∧ H t = some (.tup (prN q))
  | _, _, i, t, .nil, h => by cases h
  | _, _, 0, t, .cons e r, h => by
    have z := Option.some.inj h
    subst z
    exact ⟨_, rfl, e⟩
  | _, _, i + 1, t, .cons e r, h => NpL.get (i := i) r (by simpa using h)
def NAt (H : Hp) (l : Addr) (qs : List (Nat × Nat)) : Prop := ∃ ts : List Addr, H l = some (.lst (ts.map V.ref)) ∧ NpL H ts qs
theorem NAt.same {H H' : Hp} {l : Addr} {qs : List (Nat × Nat)} (S : Same H H') (a : NAt H l qs) : NAt H' l qs := let ⟨ts, h1, h2⟩ := a; ⟨ts, S _ _ h1, h2.keep (.of S)⟩
theorem NAt.but {D : List Addr} {H H' : Hp} {l : Addr} {qs : List (Nat × Nat)} (a : NAt H l qs) (B : But D H H') (n : l ∉ D) (t : Tups H H') : NAt H' l qs := let ⟨ts, h1, h2⟩ := a; ⟨ts, B.at h1 n, h2.keep t⟩
abbrev dNp (q : Nat × Nat) : PyData := .tuple [.int (q.1 : Nat), .int (q.2 : Nat)]
abbrev dNps (qs : List (Nat × Nat)) : PyData := .list (qs.map dNp)
theorem nps_all {K : PySem.W.Frag} {H : Hp} : ∀ {ts : List Addr} {qs : List (Nat × Nat)}, NpL H ts qs → DpAll K H (ts.map V.ref) (qs.map dNp)
  | _, _, .nil => .nil
  | _, _, .cons e r => .cons (.tup (SqT.of e) (.cons (.int _) (.cons (.int _) .nil))) (nps_all r)
theorem nps_at {K : PySem.W.Frag} {H : Hp} {l : Addr} {qs : List (Nat × Nat)} (h : NAt H l qs) : Dp K H (.ref l) (dNps qs) := let ⟨_, h1, h2⟩ := h; .lst (SqL.of h1) (nps_all h2)
theorem nps_lay : ∀ qs : List (Nat × Nat), PyData.canLayAll0 (qs.map dNp) = true
  | [] => by simp [PyData.canLayAll0]
  | q :: qs => by
    have ih := nps_lay qs
    simp [PyData.canLayAll0, PyData.canLay0, ih]
theorem nps_depth : ∀ qs : List (Nat × Nat), PyData.depthAll (qs.map dNp) ≤ 1
  | [] => by simp [PyData.depthAll]
  | q :: qs => by
    have ih := nps_depth qs
    have e : PyData.depth (dNp q) ≤ 1 := by simp [PyData.depth, PyData.depthAll]
    simp only [List.map_cons, PyData.depthAll]
    exact Nat.max_le.mpr ⟨e, ih⟩
theorem nps_shaped (qs : List (Nat × Nat)) : SeqAt.shaped (dNps qs) = true := by
  have a := nps_lay qs
  have d : PyData.depth (dNps qs) ≤ 64 := by
    have h := nps_depth qs
    show PyData.depthAll (qs.map dNp) + 1 ≤ 64
    omega
  show (PyData.canLayAll0 (qs.map dNp) && decide (PyData.depth (dNps qs) ≤ 64)) = true
  rw [a, decide_eq_true d]
  rfl
theorem nps_eqv (qs : List (Nat × Nat)) : PyData.eqv (dNps qs) (dNps qs) = true := SeqAt.eqv_refl _ (by
  have a := nps_lay qs
  show PyData.canLay0 (.list (qs.map dNp)) = true
  simp [PyData.canLay0, a])
theorem nps_eqv0 (qs : List (Nat × Nat)) : PyData.eqv (dNps qs) (.list []) = decide (qs = []) := by
  cases qs with
  | nil => rfl
  | cons q r => rfl
end Rz

namespace Rz
open PySem PySem.Spec PyProof.Rows L2
/-! ### the growths of a sign: number and place -/
def growIn (c n : Nat) (l : List Nat) : Nat → List (Nat × Nat)
  | 0 => []
  | j + 1 => growIn c n l j ++ (if l[j]? = some c then [(n, j)] else [])
def growTo (c : Nat) (rs : List Ru) : Nat → List (Nat × Nat)
  | 0 => []
  | i + 1 => growTo c rs i ++ (match rs[i]? with
    | some r => growIn c i r.1.cps.toList r.1.cps.toList.length
    | none => [])
theorem growIn_len (c n : Nat) (l : List Nat) : ∀ j, (growIn c n l j).length ≤ j
  | 0 => Nat.le_refl 0
  | j + 1 => by
    have ih := growIn_len c n l j
    unfold growIn
    rw [List.length_append]
    split
    · show _ + 1 ≤ _
      omega
    · show _ + 0 ≤ _
      omega
theorem growTo_len {c : Nat} {rs : List Ru} (h : GoodB rs) : ∀ i, (growTo c rs i).length ≤ 4 * i
  | 0 => Nat.zero_le _
  | i + 1 => by
    have ih := growTo_len (c := c) h i
    unfold growTo
    rw [List.length_append]
    split
    · rename_i r hr
      have a := growIn_len c i r.1.cps.toList r.1.cps.toList.length
      have b := (good_len (h r (List.mem_of_getElem? hr))).1
      have e : r.1.cps.toList.length = r.1.length := len_list _
      omega
    · show _ + 0 ≤ _
      omega
theorem one_eq {a b : Nat} : ((⟨#[a]⟩ : Str) = ⟨#[b]⟩) ↔ a = b :=
  ⟨fun z => by
    have z2 := congrArg (fun s : Str => s.cps.toList) z
    exact (List.cons.inj z2).1, fun z => by rw [z]⟩
theorem vone_eq {a b : Nat} : (V.str ⟨#[a]⟩ = V.str ⟨#[b]⟩) ↔ a = b :=
  ⟨fun z => one_eq.mp (by injection z), fun z => by rw [z]⟩
def sp_Book_growths (cB cC : Addr) : SpG := fun vs H Q _ => ∃ (b t : Addr) (rs : List Ru) (c : Nat), vs = [.ref b, .str ⟨#[c]⟩] ∧ BkAt cB cC H b t rs ∧ GoodB rs ∧ rs.length ≤ 6 ∧
  ∀ H' ts, Same H H' → NpL H' ts (growTo c rs rs.length) → Q (ts.map V.ref) H'
section
variable {w : World} {K : PySem.W.Frag} {mg : Str → Option Value} {base : Heap}
theorem sc_Book_growths : GScope N_Book_growths P_Book_growths (defScope s_Book_growths) := ⟨rfl, rfl, rfl, by decide +kernel, rfl, by decide +kernel, by decide +kernel⟩
theorem ok_Book_growths (T : Txt K mg) : GFn prg w K mg base 4 T.f_Book_growths T.fd_Book_growths P_Book_growths (sp_Book_growths T.c_Book T.c_Rule) := by
  refine gfn_by T.F_Book_growths sc_Book_growths (fun vs H Q E h => ?_) (fun cdv A outer s H vs Q E pn hr h => ?_)
  · obtain ⟨b, t, rs, c, rfl, _⟩ := h
    rfl
  obtain ⟨b, t, rs, c, rfl, hB, hg, h6, k⟩ := h
  have nd := sc_Book_growths.nd
  refine ⟨_, (gss_one (gs_for owns_gcx rfl (pi_enumT (by rfl) T.n_enumerate (pa_cons (pe_fld (pv 0) rfl) pa_nil)) (pg_tup rfl (pgs_cons (pg_name (i := 2) nd rfl (Or.inl rfl)) (pgs_cons (pg_name (i := 3) nd rfl (Or.inl rfl)) pgs_nil)))
      (gss_one (gs_for owns_gcx rfl (pi_enumS (by rfl) T.n_enumerate (pa_cons (pe_fld (pv 3) rfl) pa_nil)) (pg_tup rfl (pgs_cons (pg_name (i := 4) nd rfl (Or.inl rfl)) (pgs_cons (pg_name (i := 5) nd rfl (Or.inl rfl)) pgs_nil)))
        (gss_one (gs_if (pt_cmpR op_eq (pv 5) (pv 1) (nomark _)) (gss_one (gs_yield (pe_tup (pa_cons (pv 2) (pa_cons (pv 4) pa_nil))))) gss_nil)))))), ?_⟩
  obtain ⟨db, tb, hb, ht, hP⟩ := id hB
  have two : (2 : Nat) ≤ sizeLine := by decide
  have lP := hP.len
  have xl : (((tb.map V.ref)).length) = rs.length := by rw [List.length_map, lP]
  refine ⟨_, rfl, b, _, db, _, _, rfl, hb, T.cl_Book, T.na_Book__rules, rfl, t, _, rfl, SqT.of ht, ?_⟩
  refine gfor_it (walk_enumT (xs := tb.map V.ref)) (fun i ys σ' H' => ∃ (ts : List Addr) (v2 v3 v4 v5 : Option V), ys = ts.map V.ref ∧ σ' = [some (.ref b), some (.str ⟨#[c]⟩), v2, v3, v4, v5] ∧ Same H H' ∧ NpL H' ts (growTo c rs i)) ⟨[], none, none, none, none, rfl, rfl, Same.refl H, .nil⟩ (fun _ ys σ' H' _ h => ?_) ?_ ?_
  · obtain ⟨us, _, _, _, _, _, _, S, _⟩ := h
    exact SqT.of (S _ _ ht)
  · rintro i v ys σ' H2 H3 hi ⟨ts, v2, v3, v4, v5, rfl, rfl, S2, N2⟩ ⟨Tp, y, rfl, hT, rfl, hy⟩
    rw [xl] at hi
    obtain ⟨q, hq, rfl⟩ := refs_get hy
    obtain ⟨r, hr1, dq, hr2⟩ := hP.get hq
    have S3 := Rz.Same.new (o := .tup [.int (i : Nat), .ref q]) (Same.refl H2) hT
    have S13 := S2.trans S3
    have gd := good_len (hg r (List.mem_of_getElem? hr1))
    have el : r.1.cps.toList.length = r.1.length := len_list _
    have sz : r.1.cps.size = r.1.cps.toList.length := Array.length_toList.symm
    refine ⟨Tp, _, rfl, SqT.of upd_same, rfl, _, _, rfl, _, _, rfl, rfl, ?_⟩
    refine ⟨_, rfl, q, _, dq, _, _, rfl, S13 _ _ hr2, T.cl_Rule, T.na_Rule_left, rfl, r.1, rfl, ?_⟩
    refine gfor_it walk_enumS (fun j ys σ' H' => ∃ (us : List Addr) (v4 v5 : Option V), ys = us.map V.ref ∧ σ' = [some (.ref b), some (.str ⟨#[c]⟩), some (.int (i : Nat)), some (.ref q), v4, v5] ∧ Same H H' ∧ NpL H' us (growTo c rs i ++ growIn c i r.1.cps.toList j)) ⟨ts, v4, v5, rfl, rfl, S13, by rw [show growIn c i r.1.cps.toList 0 = [] from rfl, List.append_nil]; exact N2.keep (.of S3)⟩ (fun _ _ _ _ _ _ => True.intro) ?_ ?_
    · rintro j v ys σ' H4 H5 hj ⟨us, w4, w5, rfl, rfl, S4, N4⟩ ⟨Tq, e, rfl, hTq, rfl, hc⟩
      have S5 := Rz.Same.new (o := .tup [.int (j : Nat), .str ⟨#[e]⟩]) (Same.refl H4) hTq
      have S15 := S4.trans S5
      have jl : j < 4 := by omega
      refine ⟨Tq, _, rfl, SqT.of upd_same, rfl, _, _, rfl, _, _, rfl, rfl, ?_⟩
      refine ⟨_, rfl, _, rfl, rfl, _, rfl, ?_⟩
      by_cases ec : e = c
      · rw [decide_eq_true (vone_eq.mpr ec)]
        refine iteT ?_
        have zl := growTo_len (c := c) hg i
        have z2 := growIn_len c i r.1.cps.toList j
        have ln := N4.len
        rw [List.length_append] at ln
        refine ⟨by rw [List.length_map, sizeLine_eq]; omega, ?_⟩
        refine ⟨_, rfl, _, rfl, two, fun u hu => ?_⟩
        have S6 := Rz.Same.new (o := .tup [.int (i : Nat), .int (j : Nat)]) S5 hu
        refine ⟨us ++ [u], _, _, by rw [List.map_append]; rfl, rfl, S4.trans S6, ?_⟩
        have es : growIn c i r.1.cps.toList (j + 1) = growIn c i r.1.cps.toList j ++ [(i, j)] := by
          show _ ++ _ = _
          rw [hc, ec, if_pos rfl]
        rw [es, ← List.append_assoc]
        refine (N4.keep (.of S6)).append (.cons ?_ .nil)
        rw [upd_same]
        rfl
      · rw [decide_eq_false (fun z => ec (vone_eq.mp z))]
        refine iteF ?_
        refine ⟨us, _, _, rfl, rfl, S15, ?_⟩
        have es : growIn c i r.1.cps.toList (j + 1) = growIn c i r.1.cps.toList j := by
          show _ ++ _ = _
          rw [hc, if_neg (fun z => ec (Option.some.inj z)), List.append_nil]
        rw [es]
        exact N4.keep (.of S5)
    · rintro ys σ' H4 ⟨us, w4, w5, rfl, rfl, S4, N4⟩
      refine ⟨us, _, _, _, _, rfl, rfl, S4, ?_⟩
      have es : growTo c rs (i + 1) = growTo c rs i ++ growIn c i r.1.cps.toList r.1.cps.size := by
        show _ ++ _ = _
        rw [hr1, sz]
      rw [es]
      exact N4
  · rintro ys σ' H2 ⟨ts, v2, v3, v4, v5, rfl, rfl, S2, N2⟩
    rw [xl] at N2
    exact k H2 ts S2 N2
end
end Rz

namespace Rz
open PySem PySem.Spec PyProof.Rows L2
theorem SdL.nth {H : Hp} : ∀ {ts : List Addr} {rs : List Ru} {i : Nat} {r : Ru}, SdL H ts rs → rs[i]? = some r → ∃ t, ts[i]? = some t ∧ H t = some (.tup (sdV r))
  | _, _, i, r, .nil, h => by cases h
  | _, _, 0, r, .cons e p, h => by
    have z := Option.some.inj h
    subst z
    exact ⟨_, rfl, e⟩
  | _, _, i + 1, r, .cons e p, h => SdL.nth (i := i) p (by simpa using h)
/-- one pair of numbers more -/
theorem nat_push {G : Hp} {D u : Addr} {qs : List (Nat × Nat)} {q : Nat × Nat} {ts : List Addr} (e : G D = some (.lst (ts.map V.ref))) (P : NpL G ts qs) (hu : G u = none) :
    NAt (upd (upd G u (.tup (prN q))) D (.lst (ts.map V.ref ++ [.ref u]))) D (qs ++ [q]) := by
  have nuD : u ≠ D := fun z => by rw [z, e] at hu; cases hu
  have S := Rz.Same.new (o := .tup (prN q)) (Same.refl G) hu
  have T : Tups G (upd (upd G u (.tup (prN q))) D (.lst (ts.map V.ref ++ [.ref u]))) := Tups.upd (Tups.of S) (not_tupL ⟨_, S _ _ e⟩)
  refine ⟨ts ++ [u], by rw [upd_same, List.map_append]; rfl, (P.keep T).append (.cons (by rw [upd_ne nuD, upd_same]) .nil)⟩
def sp_law_places_of : Sp := fun vs H Q _ => ∃ (l : Addr) (rs : List Ru) (c : Nat), vs = [.ref l, .str ⟨#[c]⟩] ∧ SAt H l rs ∧ GoodB rs ∧ rs.length ≤ 6 ∧
  ∀ H' u, Same H H' → NAt H' u (growTo c rs rs.length) → Q (.ref u) H'
section
variable {w : World} {K : PySem.W.Frag} {mg : Str → Option Value} {base : Heap}
theorem sc_law_places_of : FnScope N__law_places_of P__law_places_of (defScope s__law_places_of) := ⟨rfl, rfl, rfl, by decide +kernel, rfl, by decide +kernel, by decide +kernel⟩
theorem ok_law_places_of (T : Txt K mg) : FnOk prg w K mg base (L2.CX prg w) 1 T.f__law_places_of T.fd__law_places_of P__law_places_of sp_law_places_of := by
  refine Rz.Fun.okN T.F__law_places_of sc_law_places_of (fun vs H Q E h => ?_) (fun cdv A outer s H vs Q E hr h => ?_)
  · obtain ⟨l, rs, c, rfl, _⟩ := h
    rfl
  obtain ⟨l, rs, c, rfl, hS, hg, h6, k⟩ := h
  have nd := sc_law_places_of.nd
  have two : (2 : Nat) ≤ sizeLine := by decide
  refine ⟨_, (pss_cons (ps_set (i := 2) nd rfl (Or.inl rfl) (pe_lst pa_nil))
    (pss_cons (ps_for PassesOwn.never rfl (pi_range1 rfl T.n_range (pa_cons (pe_callB call_lenS (by rfl) T.n_len PySem.boot_len (pa_cons (pv 0) pa_nil)) pa_nil)) (pg_name (i := 3) nd rfl (Or.inl rfl))
      (pss_one (ps_for PassesOwn.never rfl (pi_range1 rfl T.n_range (pa_cons (pe_callB call_len_str (by rfl) T.n_len PySem.boot_len (pa_cons (pe_ix ix_tup (pe_ix ix_list (pv 0) (pv 3) (fun _ _ => rfl)) pe_int (fun _ _ => rfl)) pa_nil)) pa_nil)) (pg_name (i := 4) nd rfl (Or.inl rfl))
        (pss_one (ps_if (pt_cmpR op_eq (pe_ix ix_str (pe_ix ix_tup (pe_ix ix_list (pv 0) (pv 3) (fun _ _ => rfl)) pe_int (fun _ _ => rfl)) (pv 4) (fun _ _ => rfl)) (pv 1) (nomark _)) (pss_one (ps_expr (pe_bm PySem.F.plainAttrs_list PySem.F.slot_list_append PySem.F.type_list_append mt_append (pv 2) (pa_cons (pe_tup (pa_cons (pv 3) (pa_cons (pv 4) pa_nil))) pa_nil)))) pss_nil)))))
    (pss_one (ps_ret (pv 2))))), ?_⟩
  obtain ⟨ts, el, hP⟩ := id hS
  refine ⟨by show 0 ≤ sizeLine; decide, fun u hu => ?_⟩
  have S0 := Rz.Same.new (o := .lst []) (Same.refl H) hu
  refine ⟨_, rfl, len_goS (hS.same S0) ?_⟩
  refine ⟨(rs.length : Nat), rfl, by omega, by omega, ?_⟩
  rw [Int.toNat_natCast]
  refine for_range (n := rs.length) (fun i σ H' => ∃ v3 v4 : Option V, σ = [some (.ref l), some (.str ⟨#[c]⟩), some (.ref u), v3, v4] ∧ Same H H' ∧ NAt H' u (growTo c rs i)) ⟨none, none, rfl, S0, [], upd_same, .nil⟩ ?_ ?_
  · rintro i σ G hi ⟨v3, v4, rfl, SG, NG⟩
    have hr1 : rs[i]? = some rs[i] := List.getElem?_eq_getElem hi
    have gd := good_len (hg rs[i] (List.getElem_mem hi))
    generalize rs[i] = r at hr1 gd
    obtain ⟨sd, hti, hsd⟩ := hP.nth hr1
    have e0 : (0 + (i : Nat) : Int) = ((i : Nat) : Int) := by omega
    have hat : atI (ts.map V.ref) (0 + (i : Nat) : Int) = some (.ref sd) := by rw [e0]; exact atI_nat (ref_nth hti)
    have l1 : r.1.length ≤ sizeLine := by rw [sizeLine_eq]; omega
    refine ⟨_, rfl, _, rfl, l, _, _, _, rfl, rfl, SqL.of (SG _ _ el), hat, sd, _, _, _, rfl, rfl, SqT.of (SG _ _ hsd), rfl, r.1, rfl, l1, (r.1.length : Nat), rfl, by omega, by omega, ?_⟩
    rw [Int.toNat_natCast]
    refine for_range (n := r.1.length) (fun j σ H' => ∃ v4 : Option V, σ = [some (.ref l), some (.str ⟨#[c]⟩), some (.ref u), some (.int (0 + (i : Nat))), v4] ∧ Same H H' ∧ NAt H' u (growTo c rs i ++ growIn c i r.1.cps.toList j)) ⟨v4, rfl, SG, by rw [show growIn c i r.1.cps.toList 0 = [] from rfl, List.append_nil]; exact NG⟩ ?_ ?_
    · rintro j σ G1 hj ⟨w4, rfl, S1, N1⟩
      have e1 : (0 + (j : Nat) : Int) = ((j : Nat) : Int) := by omega
      have hj2 : j < r.1.cps.toList.length := by rw [len_list]; exact hj
      have hj1 : r.1.cps.toList[j]? = some r.1.cps.toList[j] := List.getElem?_eq_getElem hj2
      generalize r.1.cps.toList[j] = e at hj1
      have hatc : atI r.1.cps.toList (0 + (j : Nat) : Int) = some e := by rw [e1]; exact atI_nat hj1
      refine ⟨_, rfl, _, rfl, l, _, _, _, rfl, rfl, SqL.of (S1 _ _ el), hat, sd, _, _, _, rfl, rfl, SqT.of (S1 _ _ hsd), rfl, _, rfl, r.1, _, _, rfl, rfl, l1, hatc, _, rfl, rfl, _, rfl, ?_⟩
      by_cases ec : e = c
      · rw [decide_eq_true (vone_eq.mpr ec)]
        obtain ⟨tu, eu, Pu⟩ := N1
        have zl := growTo_len (c := c) hg i
        have z2 := growIn_len c i r.1.cps.toList j
        have ln := Pu.len
        rw [List.length_append] at ln
        refine iteT ⟨_, rfl, .inl ⟨rfl, _, SqL.of eu⟩, _, rfl, _, rfl, two, fun q hq => ?_⟩
        have Sq := Rz.Same.new (o := .tup [.int (0 + (i : Nat)), .int (0 + (j : Nat))]) (Same.refl G1) hq
        refine ⟨u, _, .ref q, rfl, rfl, Sq _ _ eu, by rw [List.length_map, sizeLine_eq]; omega, ?_⟩
        refine ⟨_, rfl, Rz.Same.upd (S1.trans Sq) hu, ?_⟩
        have es : growIn c i r.1.cps.toList (j + 1) = growIn c i r.1.cps.toList j ++ [(i, j)] := by
          show _ ++ _ = _
          rw [hj1, ec, if_pos rfl]
        have NP := nat_push (q := (i, j)) eu Pu hq
        rw [es, ← List.append_assoc, e0, e1]
        exact NP
      · rw [decide_eq_false (fun z => ec (vone_eq.mp z))]
        refine iteF ⟨_, rfl, S1, ?_⟩
        have es : growIn c i r.1.cps.toList (j + 1) = growIn c i r.1.cps.toList j := by
          show _ ++ _ = _
          rw [hj1, if_neg (fun z => ec (Option.some.inj z)), List.append_nil]
        rw [es]
        exact N1
    · rintro σ G1 ⟨w4, rfl, S1, N1⟩
      refine ⟨_, _, rfl, S1, ?_⟩
      have es : growTo c rs (i + 1) = growTo c rs i ++ growIn c i r.1.cps.toList r.1.length := by
        show _ ++ _ = _
        rw [hr1]
        show _ ++ growIn c i r.1.cps.toList r.1.cps.toList.length = _
        rw [len_list]
      rw [es]
      exact N1
  · rintro σ G ⟨v3, v4, rfl, SG, NG⟩
    exact ⟨_, rfl, k G u SG NG⟩
end
end Rz

namespace Rz
open PySem PySem.Spec PyProof.Rows L2
theorem gt_ok (rs : List Ru) (c : Nat) (b h : Int) : PyData.strOk (gtOf rs c b h).1 = true := by
  unfold gtOf
  split
  · split
    · exact (by decide +kernel : PyData.strOk ("size" : Str) = true)
    · exact (by decide +kernel : PyData.strOk ("level" : Str) = true)
  · exact (by decide +kernel : PyData.strOk ("bound" : Str) = true)
theorem ask_ok (rs : List Ru) (ms : List Mv) (b : Int) : PyData.strOk (askOf rs ms b).1 = true := by
  unfold askOf
  split
  · exact (by decide +kernel : PyData.strOk ("size" : Str) = true)
  · exact (by decide +kernel : PyData.strOk ("bound" : Str) = true)
def sp_law_fine (cB cC : Addr) : Sp := fun vs H Q _ => ∃ (b tb l t lp mp : Addr) (z : Str) (rs : List Ru) (n : Int) (ls : List Int) (ms : List Mv) (most height : Int), vs = [.ref b, .ref l, .str z, .ref t, .int most, .int height] ∧ BkAt cB cC H b tb rs ∧ SAt H l rs ∧ GoodB rs ∧ OvB z rs ∧ rs.length ≤ 6 ∧ z.length ≤ 10 ∧
  H t = some (.tup [.int n, .ref lp, .ref mp]) ∧ H lp = some (.lst (ls.map V.int)) ∧ MAt H mp ms ∧ LotOk n ls ms ∧ n ≤ 7 ∧ ls.length ≤ 7 ∧ ms.length ≤ 12 ∧ (∀ x ∈ ms, ∃ c ∈ z.cps.toList, x.2.1 = ⟨#[c]⟩) ∧ most.natAbs < 2 ^ 60 ∧ height.natAbs < 2 ^ 60 ∧ ∀ H', Same H H' → Q (.bl true) H'
section
variable {w : World} {K : PySem.W.Frag} {mg : Str → Option Value} {base : Heap}
theorem sc_law_fine : FnScope N__law_fine P__law_fine (defScope s__law_fine) := ⟨rfl, rfl, rfl, by decide +kernel, rfl, by decide +kernel, by decide +kernel⟩
theorem ok_law_fine (T : Txt K mg) : FnOk prg w K mg base (L2.CX prg w) 13 T.f__law_fine T.fd__law_fine P__law_fine (sp_law_fine T.c_Book T.c_Rule) := by
  refine Rz.Fun.okN T.F__law_fine sc_law_fine (fun vs H Q E h => ?_) (fun cdv A outer s H vs Q E hr h => ?_)
  · obtain ⟨b, tb, l, t, lp, mp, z, rs, n, ls, ms, most, height, rfl, _⟩ := h
    rfl
  obtain ⟨b, tb, l, t, lp, mp, z, rs, n, ls, ms, most, height, rfl, hB, hS, hg, hO, h6, hz, ht, hl, hm, LO, n7, l7, m12, hms, zm, zh, k⟩ := h
  have nd := sc_law_fine.nd
  have two : (2 : Nat) ≤ sizeLine := by decide
  have mk : Mk K T.c_Lot T.f_Lot_init := ⟨T.mk_Lot, T.M_Lot_init.at_, T.M_Lot_init.fn, T.kp_Lot⟩
  obtain ⟨mv, kb⟩ := kb_grown T
  have hu : (A.deeper (envOfC "_law_fine" (defScope s__law_fine) s.heap.objs.size T.f__law_fine cdv)).units + 1 < cLine := by
    have := hr.un
    omega
  refine ⟨_, (pss_cons (ps_for PassesOwn.never rfl (pi_str (pv 2)) (pg_name (i := 6) nd rfl (Or.inl rfl))
      (pss_cons (ps_set (i := 7) nd rfl (Or.inl rfl) (pe_listG (nm := "list") (pgen_meth (pv 0) T.cl_Book T.M_Book_growths (ok_Book_growths T) (hr.mono (by decide)) T.b_Book_growths .nil (pa_cons (pv 6) pa_nil)) passN (fun _ _ _ h => h.elim) (hr.mono (by decide)) (by rfl) T.n_list (by decide +kernel)))
      (pss_cons (ps_if (pt_cmpR (op_neD hr.units) (pv 7) (pe_fn (ok_law_places_of T) (hr.mono (by decide)) (by rfl) T.m__law_places_of T.F__law_places_of.kp T.b__law_places_of .nil (fun _ => atN _) (pa_cons (pv 1) (pa_cons (pv 6) pa_nil))) (nomark _)) (pss_one (ps_ret pe_bl)) pss_nil)
      (pss_cons (ps_for PassesOwn.never rfl (pi_list (pv 7)) (pg_name (i := 8) nd rfl (Or.inl rfl))
        (pss_one (ps_if (PW.pt (pw_or (pt_not (pt_val (pe_callB call_isi (by rfl) T.n_isinstance (by decide +kernel) (pa_cons (pv 8) (pa_cons (pe_bltn (v := .ty "tuple") (by rfl) T.n_tuple (by decide +kernel) rfl) pa_nil))))) (pw_or (pt_not (pt_val (pe_fn (ok_law_is_int T) (hr.mono (by decide)) (by rfl) T.m__law_is_int T.F__law_is_int.kp T.b__law_is_int .nil (fun _ => atN _) (pa_cons (pe_ix ix_tup (pv 8) pe_int (fun _ _ => rfl)) pa_nil)))) (pw_or1 (pt_not (pt_val (pe_fn (ok_law_is_int T) (hr.mono (by decide)) (by rfl) T.m__law_is_int T.F__law_is_int.kp T.b__law_is_int .nil (fun _ => atN _) (pa_cons (pe_ix ix_tup (pv 8) pe_int (fun _ _ => rfl)) pa_nil)))))))) (pss_one (ps_ret pe_bl)) pss_nil)))
      (pss_cons (ps_if (pt_not (pt_val (pe_fn (ok_law_same T) (hr.mono (by decide)) (by rfl) T.m__law_same T.F__law_same.kp T.b__law_same .nil (fun _ => atN _) (pa_cons (pe_fn (ok_law_grown_told T) (hr.mono (by decide)) (by rfl) T.m__law_grown_told T.F__law_grown_told.kp T.b__law_grown_told .nil (fun _ => atN _) (pa_cons (pv 0) (pa_cons (pv 6) (pa_cons (pv 4) (pa_cons (pv 5) pa_nil))))) (pa_cons (pe_fn (ok_law_due_of T) (hr.mono (by decide)) (by rfl) T.m__law_due_of T.F__law_due_of.kp T.b__law_due_of .nil (fun _ => atN _) (pa_cons (pv 1) (pa_cons (pv 2) (pa_cons (pv 6) (pa_cons (pv 4) (pa_cons (pv 5) pa_nil)))))) pa_nil))))) (pss_one (ps_ret pe_bl)) pss_nil)
      (pss_cons (ps_set (i := 9) nd rfl (Or.inl rfl) (pe_fn (ok_law_due_of T) (hr.mono (by decide)) (by rfl) T.m__law_due_of T.F__law_due_of.kp T.b__law_due_of .nil (fun _ => atN _) (pa_cons (pv 1) (pa_cons (pv 2) (pa_cons (pv 6) (pa_cons (pv 4) (pa_cons pe_int pa_nil)))))))
      (pss_one (ps_if (PW.pt (pw_and (pt_cmpR op_eq (pe_ix ix_tup (pv 9) pe_int (fun _ _ => rfl)) pe_str (nomark _)) (pw_and1 (pt_not (pt_val (pe_fn (ok_law_same T) (hr.mono (by decide)) (by rfl) T.m__law_same T.F__law_same.kp T.b__law_same .nil (fun _ => atN _) (pa_cons (pe_tup (pa_cons pe_str (pa_cons (pe_mtK (pv 0) T.cl_Book T.M_Book_grown (ok_Book_grown T) (hr.mono (by decide)) kb (fun _ => atN _) (pa_cons (pv 6) pa_nil) (pk_cons (pv 4) pk_nil)) pa_nil))) (pa_cons (pv 9) pa_nil)))))))) (pss_one (ps_ret pe_bl)) pss_nil))))))))
    (pss_cons (ps_set (i := 9) nd rfl (Or.inl rfl) (pe_tup (pa_cons pe_str (pa_cons (pv 4) pa_nil))))
    (C8.pss_cut (ps_if (pt_chain op_le op_le pe_int (pv 4) pe_int) (pss_one (ps_set (i := 9) nd rfl (Or.inl rfl) (pe_tup (pa_cons pe_str (pa_cons (pe_callB (cr_sum (by rfl)) (by rfl) T.n_sum (by decide +kernel) (pa_cons (pe_lc (own := [("_law_move", 10)]) (g := (gName 10)) (tt := tYes) rfl nd (pi_list (pe_ix ix_tup (pv 3) pe_int (fun _ _ => rfl))) (blkOk_by (N := N__law_fine) (sc := defScope s__law_fine) (by decide +kernel)) (fun _ _ _ _ _ => (pg_name (i := 10) nd rfl (Or.inl rfl))) (fun _ _ _ _ _ => pts_nil) (fun _ _ _ _ _ => (pe_dget hu (pe_fn (ok_law_size_table T) (hr.mono (by decide)) (by rfl) T.m__law_size_table T.F__law_size_table.kp T.b__law_size_table .nil (fun _ => atN _) (pa_cons (pv 1) (pa_cons (pv 2) (pa_cons (pv 4) pa_nil)))) (pe_ix (show IxR _ (rIxT K) from ix_tup) (pv 10) pe_int (fun _ _ => rfl)) (fun _ _ => rfl)))) pa_nil)) pa_nil))))) pss_nil)
    (pss_one (ps_ret (pe_fn (ok_law_same T) (hr.mono (by decide)) (by rfl) T.m__law_same T.F__law_same.kp T.b__law_same .nil (fun _ => atN _) (pa_cons (pe_fn (ok_law_asked T) (hr.mono (by decide)) (by rfl) T.m__law_asked T.F__law_asked.kp T.b__law_asked .nil (fun _ => atN _) (pa_cons (pv 0) (pa_cons (pe_mkS mk (fnr_of (ok_Lot_init T) T.b_Lot_init) (hr.mono (by decide)) (by rfl) T.m_Lot (fun _ => atN _) (pa_cons (pe_ix ix_tup (pv 3) pe_int (fun _ _ => rfl)) (pa_cons (pe_callTy call_listS (by rfl) T.n_list (by decide +kernel) (pa_cons (pe_ix ix_tup (pv 3) pe_int (fun _ _ => rfl)) pa_nil)) (pa_cons (pe_callTy call_listS (by rfl) T.n_list (by decide +kernel) (pa_cons (pe_ix ix_tup (pv 3) pe_int (fun _ _ => rfl)) pa_nil)) pa_nil)))) (pa_cons (pv 4) pa_nil)))) (pa_cons (pv 9) pa_nil)))))))), ?_⟩
  unfold rListS
  obtain ⟨db, ts0, hb, hts, hP⟩ := id hB
  refine ⟨_, rfl, z, rfl, for_it walk_str (fun i σ H' => ∃ v6 v7 v8 v9 : Option V, σ = [some (.ref b), some (.ref l), some (.str z), some (.ref t), some (.int most), some (.int height), v6, v7, v8, v9, none] ∧ Same H H') ⟨none, none, none, none, rfl, Same.refl H⟩ (fun _ _ _ _ _ => trivial) ?_ ?_⟩
  · rintro i x σ G G' hi ⟨v6, v7, v8, v9, rfl, SG⟩ ⟨rfl, c, hc, rfl⟩
    have hc2 : z.cps.toList[i]? = some c := by rw [Array.getElem?_toList]; exact hc
    have cin := List.mem_of_getElem? hc2
    refine ⟨_, rfl, b, db, _, rfl, SG _ _ hb, rfl, _, rfl, b, tb, rs, c, rfl, hB.same SG, hg, h6, fun H1 ts S1 N1 q hq => ?_⟩
    have S2 := Rz.Same.new (o := .lst (ts.map V.ref)) (SG.trans S1) hq
    have Nq : NAt (upd H1 q (.lst (ts.map V.ref))) q (growTo c rs rs.length) := ⟨ts, upd_same, N1.keep (Tups.of (Rz.Same.new (Same.refl H1) hq))⟩
    generalize upd H1 q (.lst (ts.map V.ref)) = H2 at S2 Nq ⊢
    refine ⟨_, rfl, _, rfl, _, rfl, l, rs, c, rfl, hS.same S2, hg, h6, fun H3 u S3 N3 => ?_⟩
    generalize growTo c rs rs.length = qs at Nq N3
    refine ⟨dNps qs, dNps qs, nps_at (Nq.same S3), nps_at N3, nps_shaped _, nps_shaped _, _, rfl, ?_⟩
    rw [nps_eqv]
    refine iteF ?_
    have S03 := S2.trans S3
    obtain ⟨tq, eq, Pq⟩ := Nq.same S3
    have lq := Pq.len
    refine ⟨_, rfl, q, rfl, ⟨_, SqL.of eq⟩, for_list (xs := tq.map V.ref) (fun i σ H' => ∃ v8 : Option V, σ = [some (.ref b), some (.ref l), some (.str z), some (.ref t), some (.int most), some (.int height), some (.str ⟨#[c]⟩), some (.ref q), v8, v9, none] ∧ Same H3 H') ⟨v8, rfl, Same.refl _⟩ (fun i σ H' _ h => ?_) ?_ ?_⟩
    · obtain ⟨_, _, S⟩ := h
      exact SqL.of (S _ _ eq)
    · rintro j x σ G hx ⟨v8, rfl, SG⟩
      obtain ⟨st, hst, rfl⟩ := refs_get hx
      obtain ⟨⟨nn, ii⟩, hn1, est⟩ := Pq.get hst
      have est : H3 st = some (.tup [.int (nn : Nat), .int (ii : Nat)]) := est
      have e15 := SG _ _ est
      refine ⟨_, rfl, _, _, .type "tuple", .type "tuple", true, rfl, .ty _, .base (.tup e15), kit_ty (by decide +kernel), true, rfl, iteF ?_⟩
      refine ⟨_, rfl, st, _, _, _, rfl, rfl, SqT.of e15, rfl, _, rfl, true, rfl, iteF ?_⟩
      refine ⟨_, rfl, st, _, _, _, rfl, rfl, SqT.of e15, rfl, _, rfl, true, rfl, iteF ?_⟩
      exact ⟨_, rfl, SG⟩
    rintro σ H4 ⟨v8, rfl, S4⟩
    have S04 := S03.trans S4
    refine ⟨_, rfl, _, rfl, _, rfl, _, rfl, b, tb, rs, c, most, height, rfl, hB.same S04, hg, h6, zm, zh, fun H5 u1 S5 e5 => ?_⟩
    have S05 := S04.trans S5
    refine ⟨_, rfl, _, rfl, _, rfl, _, rfl, _, rfl, l, z, rs, c, most, height, rfl, hS.same S05, hg, hO, h6, hz, cin, fun H6 u2 S6 e6 => ?_⟩
    refine ⟨u1, u2, _, _, rfl, S6 _ _ e5, e6, gt_ok _ _ _ _, ⟨true, rfl, iteF ?_⟩⟩
    have S06 := S05.trans S6
    refine ⟨_, rfl, _, rfl, _, rfl, _, rfl, l, z, rs, c, most, 0, rfl, hS.same S06, hg, hO, h6, hz, cin, fun H7 u3 S7 e7 => ?_⟩
    have S07 := S06.trans S7
    refine ⟨_, rfl, u3, _, _, _, rfl, rfl, SqT.of e7, rfl, rfl, _, rfl, ?_⟩
    by_cases hin : 0 ≤ most ∧ most ≤ 8
    · have eg : gtOf rs c most 0 = (("size" : Str), sizesAt rs most.toNat c) := by
        unfold gtOf
        rw [if_pos hin, if_pos ⟨Int.le_refl 0, hin.1⟩, Int.sub_zero]
      rw [eg] at e7 ⊢
      refine iteT ⟨_, rfl, b, db, _, rfl, S07 _ _ hb, rfl, _, rfl, _, rfl, rfl, rfl, b, tb, rs, c, most, 0, rfl, hB.same S07, hg, h6, by omega, by decide, fun _ => ⟨fun _ H8 S8 => ?_, fun q => absurd ⟨Int.le_refl 0, hin.1⟩ q⟩, fun q => absurd hin q⟩
      rw [Int.sub_zero]
      refine ⟨two, fun u4 hu4 => ⟨_, rfl, u4, u3, _, _, rfl, upd_same, (S8.trans (Rz.Same.new (Same.refl H8) hu4)) _ _ e7, by decide +kernel, ⟨true, rfl, iteF ?_⟩⟩⟩
      exact ⟨_, _, _, _, rfl, (S07.trans S8).trans (Rz.Same.new (Same.refl H8) hu4)⟩
    · have eg : gtOf rs c most 0 = (("bound" : Str), most) := by
        unfold gtOf
        rw [if_neg hin]
      rw [eg]
      exact iteF (iteF ⟨_, _, _, _, rfl, S07⟩)
  · rintro σ G ⟨v6, v7, v8, v9, rfl, SG⟩
    refine ⟨_, rfl, two, fun u1 hu1 => ?_⟩
    have S1 := Rz.Same.new (o := .tup [.str "bound", .int most]) SG hu1
    have e1 : upd G u1 (.tup [.str "bound", .int most]) u1 = some (.tup [.str "bound", .int most]) := upd_same
    generalize upd G u1 (.tup [.str "bound", .int most]) = H1 at S1 e1 ⊢
    refine ⟨fun σ H' => ∃ u2 : Addr, σ = [some (.ref b), some (.ref l), some (.str z), some (.ref t), some (.int most), some (.int height), v6, v7, v8, some (.ref u2), none] ∧ Same H H' ∧ H' u2 = some (.tup [.str (askOf rs ms most).1, .int (askOf rs ms most).2]), ?_, ?_⟩
    · refine ⟨_, rfl, _, _, rfl, rfl, decide (0 ≤ most), rfl, ?_⟩
      by_cases hin : 0 ≤ most ∧ most ≤ 8
      · rw [decide_eq_true hin.1]
        refine iteT ⟨_, _, rfl, rfl, decide (most ≤ 8), rfl, ?_⟩
        rw [decide_eq_true hin.2]
        obtain ⟨tm, em, hM⟩ := hm
        have lM := hM.len
        have em1 := S1 _ _ em
        refine iteT ⟨_, rfl, t, _, _, _, rfl, rfl, SqT.of (S1 _ _ ht), atI_nat (j := 2) rfl, mp, rfl, ⟨_, SqL.of em1⟩, fun D hD => lc_it (walk_list (xs := tm.map V.ref)) (fun i H' => Same H1 H' ∧ H' D = some (.lst ((sizeOf rs most.toNat (ms.take i)).map V.int))) ⟨Rz.Same.new (Same.refl _) hD, upd_same⟩ (fun i H' _ h => SqL.of (h.1 _ _ em1)) ?_ ?_⟩
        · rintro i x Ga Gb hi ⟨S, e⟩ ⟨rfl, hx⟩
          obtain ⟨u, hu2, rfl⟩ := refs_get hx
          obtain ⟨m, hm2, et⟩ := hM.get hu2
          obtain ⟨c, hcz, hc⟩ := hms m (List.mem_of_getElem? hm2)
          have i1 : i < ms.length := (List.getElem?_eq_some_iff.mp hm2).1
          have sc : signC m = c := by
            unfold signC
            rw [hc]
            rfl
          have S01 := S1.trans S
          have et2 := S01 _ _ et
          unfold mvV at et2
          rw [hc] at et2
          refine ⟨rfl, yesT ⟨_, rfl, _, rfl, _, rfl, l, z, rs, most, rfl, hS.same S01, hg, hO, h6, hz, hin.1, hin.2, fun H3 D1 S3 Z3 => ?_⟩⟩
          refine ⟨_, rfl, u, _, 1, _, rfl, rfl, SqT.of (S3 _ _ et2), atI_nat (j := 1) rfl, D1, _, rfl, Z3.get1 hcz, _, S3 _ _ e, ?_, Rz.Same.upd (S.trans S3) hD, ?_⟩
          · unfold sizeOf
            rw [List.length_map, List.length_map, List.length_take, sizeLine_eq]
            omega
          · rw [upd_same, List.take_add_one, hm2]
            unfold sizeOf
            rw [List.map_append, List.map_append]
            show some (HO.lst (_ ++ [V.int (sizesAt rs most.toNat c)])) = some (.lst (_ ++ [V.int (sizesAt rs most.toNat (signC m))]))
            rw [sc]
        · rintro G2 ⟨S, e⟩
          rw [List.length_map, lM, List.take_length] at e
          refine ⟨D, _, rfl, SqL.of e, two, fun u2 hu2 => ⟨u2, rfl, (S1.trans S).trans (Rz.Same.new (Same.refl G2) hu2), ?_⟩⟩
          unfold askOf
          rw [if_pos hin]
          exact upd_same
      · have ea : askOf rs ms most = (("bound" : Str), most) := by
          unfold askOf
          rw [if_neg hin]
        rw [ea]
        by_cases h0 : 0 ≤ most
        · rw [decide_eq_true h0]
          refine iteT ⟨_, _, rfl, rfl, decide (most ≤ 8), rfl, ?_⟩
          rw [decide_eq_false (fun q => hin ⟨h0, q⟩)]
          exact iteF ⟨u1, rfl, S1, e1⟩
        · rw [decide_eq_false h0]
          exact iteF ⟨false, rfl, iteF ⟨u1, rfl, S1, e1⟩⟩
    · rintro σ H2 ⟨u2, rfl, S2, e2⟩
      have ht2 := S2 _ _ ht
      refine ⟨_, rfl, _, rfl, t, _, 0, _, rfl, rfl, SqT.of ht2, atI_nat (j := 0) rfl, _, rfl, t, _, 1, _, rfl, rfl, SqT.of ht2, atI_nat (j := 1) rfl, lp, _, rfl, SqL.of (S2 _ _ hl), fun L0 hL0 => ?_⟩
      have S3 := Rz.Same.new (o := .lst (ls.map V.int)) (Same.refl H2) hL0
      have e3 : upd H2 L0 (.lst (ls.map V.int)) L0 = some (.lst (ls.map V.int)) := upd_same
      generalize upd H2 L0 (.lst (ls.map V.int)) = H3 at S3 e3 ⊢
      have S03 := S2.trans S3
      obtain ⟨tm, em, hM⟩ := hm
      refine ⟨_, rfl, t, _, 2, _, rfl, rfl, SqT.of (S03 _ _ ht), atI_nat (j := 2) rfl, mp, _, rfl, SqL.of (S03 _ _ em), fun M0 hM0 => ?_⟩
      have S4 := Rz.Same.new (o := .lst (tm.map V.ref)) (Same.refl H3) hM0
      have e4 : upd H3 M0 (.lst (tm.map V.ref)) M0 = some (.lst (tm.map V.ref)) := upd_same
      generalize upd H3 M0 (.lst (tm.map V.ref)) = H4 at S4 e4 ⊢
      have S04 := S03.trans S4
      have MM : MAt H4 M0 ms := ⟨tm, e4, hM.keep (Tups.of S04)⟩
      have zs : ∀ x ∈ ms, x.2.1.length ≤ 1000000 := fun x hx => by
        obtain ⟨c, _, e⟩ := hms x hx
        rw [e]
        show 1 ≤ 1000000
        decide
      have zn : ∀ x ∈ ls ++ named ms, x.natAbs < 2 ^ 64 := fun x hx => by
        have b := LO.st
        rcases List.mem_append.mp hx with q | q
        · have := b.2.1 x q
          omega
        · obtain ⟨y, hy, e⟩ := mem_named.mp q
          have := b.2.2 y hy
          rcases e with e | e <;> omega
      refine lot_made (S4 _ _ e3) MM (by omega) (by omega) zn zs (fun _ _ _ H5 o ls' ms' s1 s2 S5 _ L => ?_) (fun bad => (bad.elim (fun q => q LO.st) fun q => q LO.ld).elim) (fun _ _ i hi _ no => (no (LO.us i hi)).elim)
      obtain rfl := srtM_one s2 LO.sm
      have S05 := S04.trans S5
      refine ⟨_, rfl, b, tb, o, rs, n, ls', ms', _, most, rfl, hB.same S05, hg, h6, L, by omega, fun x hx => (hms x hx).imp fun c h => h.2, zm, fun H6 u3 S6 e6 => ?_⟩
      exact ⟨_, rfl, u3, u2, _, _, rfl, e6, (((S3.trans S4).trans S5).trans S6) _ _ e2, ask_ok _ _ _, k _ (S05.trans S6)⟩
end
end Rz

namespace Rz
open PySem PySem.Spec PyProof.Rows L2
/-! ### lists of pairs of texts, compared -/
theorem sds_lay : ∀ {rs : List Ru}, GoodB rs → PyData.canLayAll0 (rs.map dSd) = true
  | [], _ => rfl
  | r :: rs, h => by
    have g := rd_fo (h r List.mem_cons_self)
    have a : PyData.canLay0 (dSd r) = true := by
      show PyData.canLayAll0 [PyData.str r.1, PyData.str r.2] = true
      simp [PyData.canLayAll0, PyData.canLay0, strOk_of g.1, strOk_of g.2]
    have b := sds_lay (rs := rs) fun q hq => h q (List.mem_cons_of_mem _ hq)
    simp only [List.map_cons, PyData.canLayAll0, a, b, Bool.and_self]
theorem sds_depth : ∀ rs : List Ru, PyData.depthAll (rs.map dSd) ≤ 1
  | [] => by simp [PyData.depthAll]
  | r :: rs => by
    have b := sds_depth rs
    simp only [List.map_cons, PyData.depthAll]
    have a : PyData.depth (dSd r) = 1 := by simp [PyData.depth, PyData.depthAll]
    rw [a]
    omega
theorem sds_shaped {rs : List Ru} (h : GoodB rs) : SeqAt.shaped (dSds rs) = true := by
  have d : PyData.depth (dSds rs) ≤ 64 := by
    have := sds_depth rs
    show PyData.depthAll (rs.map dSd) + 1 ≤ 64
    omega
  show (PyData.canLayAll0 (rs.map dSd) && decide (PyData.depth (dSds rs) ≤ 64)) = true
  rw [sds_lay h, decide_eq_true d]
  rfl
theorem sds_eqv : ∀ rs : List Ru, PyData.eqvAll (rs.map dSd) (rs.map dSd) = true
  | [] => rfl
  | r :: rs => by
    have a : PyData.eqv (dSd r) (dSd r) = true := by
      show PyData.eqvAll _ _ = true
      simp [PyData.eqvAll, PyData.eqv]
    simp only [List.map_cons, PyData.eqvAll, a, sds_eqv rs, Bool.and_self]
end Rz

namespace Rz
open PySem PySem.Spec PyProof.Rows L2
def spLaw (K : PySem.W.Frag) : Sp := fun vs H Q _ => ∃ (a : Addr) (ns : List Int), vs = [.ref a] ∧ SqL K H a (ns.map V.int) ∧ ns.length ≤ 63 ∧ ∀ H', Q (.bl true) H'
theorem over_trans {x y z : Str} (h : Over y x) (g : Over z y) : Over z x := fun c hc => g c (h c hc)
theorem cutS_to {z : Str} {j : Nat} (hj : j ≤ z.length) : (cutS z none (some (j : Int))).cps.toList = z.cps.toList.take j := by
  have e2 : HT.sIx z.length z.length (some (j : Int)) = j := by
    unfold HT.sIx
    simp only
    rw [if_neg (by omega), Int.toNat_natCast]
    omega
  have e1 : HT.sIx z.length 0 none = 0 := rfl
  unfold cutS
  rw [e1, e2, List.drop_zero, Nat.sub_zero]
/-- the three parts of a lot -/
def PrAt (G : Hp) (t l m : Addr) (n : Int) (ls : List Int) (ms : List Mv) : Prop := G t = some (.tup [.int n, .ref l, .ref m]) ∧ G l = some (.lst (ls.map V.int)) ∧ MAt G m ms
theorem PrAt.same {G G' : Hp} {t l m : Addr} {n : Int} {ls : List Int} {ms : List Mv} (h : PrAt G t l m n ls ms) (S : Same G G') : PrAt G' t l m n ls ms := ⟨S _ _ h.1, S _ _ h.2.1, h.2.2.same S⟩
theorem PrAt.but {G G' : Hp} {x t l m : Addr} {n : Int} {ls : List Int} {ms : List Mv} (h : PrAt G t l m n ls ms) (B : But [x] G G') (nt : t ≠ x) (nl : l ≠ x) (nm : m ≠ x) (T : Tups G G') : PrAt G' t l m n ls ms :=
  ⟨B.at h.1 (by simpa using nt), B.at h.2.1 (by simpa using nl), h.2.2.but B (by simpa using nm) T⟩
section
variable {w : World} {K : PySem.W.Frag} {mg : Str → Option Value} {base : Heap}
theorem sc_law : FnScope N_law P_law (defScope s_law) := ⟨rfl, rfl, rfl, by decide +kernel, rfl, by decide +kernel, by decide +kernel⟩
theorem ok_law (T : Txt K mg) : FnOk prg w K mg base (L2.CX prg w) 14 T.f_law T.fd_law P_law (spLaw K) := by
  refine Rz.Fun.okN T.F_law sc_law (fun vs H Q E h => ?_) (fun cdv A outer s H vs Q E hr h => ?_)
  · obtain ⟨a, ns, rfl, _⟩ := h
    rfl
  obtain ⟨a, ns, rfl, hS, hlen, k⟩ := h
  have nd := sc_law.nd
  have two : (2 : Nat) ≤ sizeLine := by decide
  refine ⟨_, (pss_cons (ps_set (i := 1) nd rfl (Or.inl rfl) (pe_fn (ok_law_pool T) (hr.mono (by decide)) (by rfl) T.m__law_pool T.F__law_pool.kp T.b__law_pool .nil (fun _ => atN _) (pa_cons (pv 0) pa_nil)))
    (pss_cons (ps_set (i := 2) nd rfl (Or.inl rfl) (pe_fn (ok_law_alphabet T) (hr.mono (by decide)) (by rfl) T.m__law_alphabet T.F__law_alphabet.kp T.b__law_alphabet .nil (fun _ => atN _) (pa_cons (pv 1) (pa_cons pe_int pa_nil))))
    (pss_cons (ps_set (i := 3) nd rfl (Or.inl rfl) (pe_fn (ok_law_book_of T) (hr.mono (by decide)) (by rfl) T.m__law_book_of T.F__law_book_of.kp T.b__law_book_of .nil (fun _ => atN _) (pa_cons (pv 1) (pa_cons (pe_slice sl_str (pv 2) po_none (po_some pe_int)) pa_nil))))
    (pss_cons (ps_set (i := 4) nd rfl (Or.inl rfl) (pe_fn (ok_law_pick T) (hr.mono (by decide)) (by rfl) T.m__law_pick T.F__law_pick.kp T.b__law_pick .nil (fun _ => atN _) (pa_cons (pv 1) (pa_cons pe_int pa_nil))))
    (pss_cons (ps_set (i := 5) nd rfl (Or.inl rfl) (pe_op op_add pe_int (pe_fn (ok_law_pick T) (hr.mono (by decide)) (by rfl) T.m__law_pick T.F__law_pick.kp T.b__law_pick .nil (fun _ => atN _) (pa_cons (pv 1) (pa_cons pe_int pa_nil)))))
    (C8.pss_cut (ps_if (pt_cmpR op_eq (pe_fn (ok_law_pick T) (hr.mono (by decide)) (by rfl) T.m__law_pick T.F__law_pick.kp T.b__law_pick .nil (fun _ => atN _) (pa_cons (pv 1) (pa_cons pe_int pa_nil))) pe_int (nomark _)) (pss_one (ps_set (i := 4) nd rfl (Or.inl rfl) (pe_ifExp (pt_cmpR op_eq (pe_fn (ok_law_pick T) (hr.mono (by decide)) (by rfl) T.m__law_pick T.F__law_pick.kp T.b__law_pick .nil (fun _ => atN _) (pa_cons (pv 1) (pa_cons pe_int pa_nil))) pe_int (nomark _)) (pe_un un_neg (pv 5)) (pe_op op_add pe_int (pv 5))))) pss_nil)
    (C8.pss_cut (ps_set (i := 6) nd rfl (Or.inl rfl) (pe_ifExp (pt_chain op_le op_le pe_int (pv 4) pe_int) (pe_fn (ok_law_pick T) (hr.mono (by decide)) (by rfl) T.m__law_pick T.F__law_pick.kp T.b__law_pick .nil (fun _ => atN _) (pa_cons (pv 1) (pa_cons (pe_op op_add (pv 4) pe_int) pa_nil))) pe_int))
    (C8.pss_cut (ps_if (pt_cmpR op_eq (pe_fn (ok_law_pick T) (hr.mono (by decide)) (by rfl) T.m__law_pick T.F__law_pick.kp T.b__law_pick .nil (fun _ => atN _) (pa_cons (pv 1) (pa_cons pe_int pa_nil))) pe_int (nomark _)) (pss_one (ps_set (i := 6) nd rfl (Or.inl rfl) (pe_ifExp (pt_cmpR op_eq (pe_fn (ok_law_pick T) (hr.mono (by decide)) (by rfl) T.m__law_pick T.F__law_pick.kp T.b__law_pick .nil (fun _ => atN _) (pa_cons (pv 1) (pa_cons pe_int pa_nil))) pe_int (nomark _)) (pe_un un_neg (pv 5)) (pe_op op_add (pv 4) (pv 5))))) pss_nil)
    (pss_cons (ps_set (i := 7) nd rfl (Or.inl rfl) (pe_fn (ok_law_lot_of T) (hr.mono (by decide)) (by rfl) T.m__law_lot_of T.F__law_lot_of.kp T.b__law_lot_of .nil (fun _ => atN _) (pa_cons (pv 1) (pa_cons (pv 2) pa_nil))))
    (pss_cons (ps_set (i := 8) nd rfl (Or.inl rfl) (pe_cm (pe_glob (v := .ref T.c_Book) (by rfl) T.m_Book rfl) T.cr_Book_read T.M_Book_read (fnr_of (ok_Book_read T) T.b_Book_read) (hr.mono (by decide)) (fun _ => atN _) (pa_cons (pe_fn (ok_law_lines_of T) (hr.mono (by decide)) (by rfl) T.m__law_lines_of T.F__law_lines_of.kp T.b__law_lines_of .nil (fun _ => atN _) (pa_cons (pv 3) pa_nil)) pa_nil)))
    (pss_cons (ps_if (pt_not (pt_val (pe_fn (ok_law_fine T) (hr.mono (by decide)) (by rfl) T.m__law_fine T.F__law_fine.kp T.b__law_fine .nil (fun _ => atN _) (pa_cons (pv 8) (pa_cons (pv 3) (pa_cons (pv 2) (pa_cons (pv 7) (pa_cons (pv 4) (pa_cons (pv 6) pa_nil))))))))) (pss_one (ps_ret pe_bl)) pss_nil)
    (pss_cons (ps_if (pt_cmpR (op_eqD hr.units) (pv 3) (pe_lst pa_nil) (nomark _)) (pss_one (ps_ret (pe_cmpR op_eq (pe_mt0 (pv 8) T.cl_Book T.M_Book_written (ok_Book_written T) (hr.mono (by decide)) T.b_Book_written .nil (fun _ => atN _)) pe_str (nomark _)))) pss_nil)
    (pss_cons (ps_set (i := 9) nd rfl (Or.inl rfl) (pe_fn (ok_law_pick T) (hr.mono (by decide)) (by rfl) T.m__law_pick T.F__law_pick.kp T.b__law_pick .nil (fun _ => atN _) (pa_cons (pv 1) (pa_cons (pe_callB call_lenS (by rfl) T.n_len PySem.boot_len (pa_cons (pv 3) pa_nil)) pa_nil))))
    (pss_cons (ps_expr (pe_mt (pv 8) T.cl_Book T.M_Book_drop (ok_Book_drop T) (hr.mono (by decide)) T.b_Book_drop .nil (fun _ => atN _) (pa_cons (pv 9) pa_nil)))
    (pss_one (ps_ret (pe_fn (ok_law_fine T) (hr.mono (by decide)) (by rfl) T.m__law_fine T.F__law_fine.kp T.b__law_fine .nil (fun _ => atN _) (pa_cons (pv 8) (pa_cons (pe_op op_cat (pe_slice sl_list (pv 3) po_none (po_some (pv 9))) (pe_slice sl_list (pv 3) (po_some (pe_op op_add (pv 9) pe_int)) po_none)) (pa_cons (pv 2) (pa_cons (pv 7) (pa_cons (pv 4) (pa_cons (pv 6) pa_nil))))))))))))))))))))))), ?_⟩
  refine ⟨_, rfl, a, ns, rfl, hS, hlen, fun H1 d S1 hd D1 => ?_⟩
  refine ⟨_, rfl, d, 4, rfl, by decide, by decide, D1, fun H2 z hz oz ndz D2 B2 => ?_⟩
  have hz4 : z.length = 4 := by omega
  refine ⟨_, rfl, _, rfl, 3, rfl, z, rfl, by rw [hz4]; decide, ?_⟩
  have ct := cutS_to (z := z) (j := 3) (by omega)
  have oc : Over z (cutS z none (some ((3 : Nat) : Int))) := fun c hc => by
    rw [ct] at hc
    exact List.mem_of_mem_take hc
  have cl : (cutS z none (some ((3 : Nat) : Int))).length = 3 := by
    have e := congrArg List.length ct
    rw [List.length_take] at e
    have e2 : z.cps.toList.length = z.length := len_list z
    have e3 : (cutS z none (some ((3 : Nat) : Int))).cps.toList.length = (cutS z none (some ((3 : Nat) : Int))).length := len_list _
    omega
  refine ⟨d, _, rfl, cl, over_trans oc oz, D2, fun H3 l rs D3 B3 hl A3 g3 o3 l6 => ?_⟩
  have ndl : d ≠ l := apartNew D2.some hl
  have oz3 : OvB z rs := fun r hr => ⟨over_trans (o3 r hr).1 oc, over_trans (o3 r hr).2 oc⟩
  clear hS S1 hd D1 D2 B2 B3 hl o3 ct oc cl
  refine ⟨_, rfl, d, 9, rfl, by decide, D3, fun H4 b1 c0 c1 D4 B4 => ?_⟩
  have A4 := A3.but B4 (nin1 (Ne.symm ndl)) (drT D3 B4)
  refine ⟨_, rfl, d, 20, rfl, by decide, D4, fun H5 f f0 f1 D5 B5 => ⟨_, _, rfl, rfl, ?_⟩⟩
  have A5 := A4.but B5 (nin1 (Ne.symm ndl)) (drT D4 B5)
  clear D3 A3 D4 A4 B4 B5
  refine ⟨fun σ H' => ∃ bd : Int, σ = [some (.ref a), some (.ref d), some (.str z), some (.ref l), some (.int bd), some (.int (1 + f)), none, none, none, none] ∧ bd.natAbs ≤ 100 ∧ Dr H' d ∧ SAt H' l rs, ?_, ?_⟩
  · refine ⟨_, rfl, d, 4, rfl, by decide, D5, fun H6 y y0 y4 D6 B6 => ⟨rfl, _, rfl, ?_⟩⟩
    have A6 := A5.but B6 (nin1 (Ne.symm ndl)) (drT D5 B6)
    refine ite2 (fun _ => ?_) (fun _ => ⟨b1, rfl, by omega, D6, A6⟩)
    refine ⟨_, rfl, d, 2, rfl, by decide, D6, fun H7 y y0 y4 D7 B7 => ⟨rfl, _, rfl, ?_⟩⟩
    have A7 := A6.but B7 (nin1 (Ne.symm ndl)) (drT D6 B7)
    exact ite2 (fun _ => ⟨_, rfl, _, rfl, -(1 + f), rfl, by omega, D7, A7⟩) (fun _ => ⟨_, rfl, _, _, rfl, rfl, 8 + (1 + f), rfl, by omega, D7, A7⟩)
  rintro σ H6 ⟨bd, rfl, zb, D6, A6⟩
  clear D5 A5
  refine ⟨fun σ H' => ∃ lv : Int, σ = [some (.ref a), some (.ref d), some (.str z), some (.ref l), some (.int bd), some (.int (1 + f)), some (.int lv), none, none, none] ∧ lv.natAbs ≤ 200 ∧ Dr H' d ∧ SAt H' l rs, ?_, ?_⟩
  · refine ⟨_, rfl, _, _, rfl, rfl, decide (0 ≤ bd), rfl, ?_⟩
    by_cases h0 : 0 ≤ bd
    · rw [decide_eq_true h0]
      refine iteT ⟨_, _, rfl, rfl, decide (bd ≤ 8), rfl, ?_⟩
      by_cases h8 : bd ≤ 8
      · rw [decide_eq_true h8]
        refine iteT ⟨_, rfl, _, rfl, _, _, rfl, rfl, d, bd + 1, rfl, by omega, D6, fun H7 y y0 y1 D7 B7 => ?_⟩
        exact ⟨y, rfl, by omega, D7, A6.but B7 (nin1 (Ne.symm ndl)) (drT D6 B7)⟩
      · rw [decide_eq_false h8]
        exact iteF ⟨0, rfl, by decide, D6, A6⟩
    · rw [decide_eq_false h0]
      exact iteF ⟨false, rfl, iteF ⟨0, rfl, by decide, D6, A6⟩⟩
  rintro σ H7 ⟨lv, rfl, zl, D7, A7⟩
  clear D6 A6
  refine ⟨fun σ H' => ∃ lv : Int, σ = [some (.ref a), some (.ref d), some (.str z), some (.ref l), some (.int bd), some (.int (1 + f)), some (.int lv), none, none, none] ∧ lv.natAbs ≤ 200 ∧ Dr H' d ∧ SAt H' l rs, ?_, ?_⟩
  · refine ⟨_, rfl, d, 4, rfl, by decide, D7, fun H8 y y0 y4 D8 B8 => ⟨rfl, _, rfl, ?_⟩⟩
    have A8 := A7.but B8 (nin1 (Ne.symm ndl)) (drT D7 B8)
    refine ite2 (fun _ => ?_) (fun _ => ⟨lv, rfl, zl, D8, A8⟩)
    refine ⟨_, rfl, d, 2, rfl, by decide, D8, fun H9 y y0 y4 D9 B9 => ⟨rfl, _, rfl, ?_⟩⟩
    have A9 := A8.but B9 (nin1 (Ne.symm ndl)) (drT D8 B9)
    exact ite2 (fun _ => ⟨_, rfl, _, rfl, -(1 + f), rfl, by omega, D9, A9⟩) (fun _ => ⟨_, rfl, _, rfl, _, _, rfl, rfl, bd + (1 + f), rfl, by omega, D9, A9⟩)
  rintro σ H8 ⟨lw, rfl, zw, D8, A8⟩
  clear D7 A7 zl
  refine ⟨_, rfl, _, rfl, d, z, rfl, D8, by omega, by omega, oz, ndz, fun H9 t lp mp n ls ms ht hlp hmp LO n7 l7 m12 hms ft fl fm D9 B9 => ?_⟩
  have P9 : PrAt H9 t lp mp n ls ms := ⟨ht, hlp, hmp⟩
  have nt : t ≠ d := Ne.symm (apartNew D8.some ft)
  have nl : lp ≠ d := Ne.symm (apartNew D8.some fl)
  have nm : mp ≠ d := Ne.symm (apartNew D8.some fm)
  have A9 := A8.but B9 (nin1 (Ne.symm ndl)) (drT D8 B9)
  clear D8 A8 ht hlp hmp ft fl fm B9
  refine ⟨rfl, _, rfl, l, rs, rfl, A9, g3, l6, fun H10 S10 => ⟨rs, rfl, g3, l6, fun H11 b tb S11 fb ftb Bk11 => ?_⟩⟩
  have S911 := S10.trans S11
  have D11 := D9.same S911
  have A11 := A9.same S911
  have P11 := P9.same S911
  have nbd : b ≠ d := bd_ne Bk11 D11
  clear S10 S11 S911 D9 A9 P9 fb ftb
  refine ⟨_, rfl, _, rfl, _, rfl, _, rfl, _, rfl, _, rfl, b, tb, l, t, lp, mp, z, rs, n, ls, ms, bd, lw, rfl, Bk11, A11, g3, oz3, l6, by omega, P11.1, P11.2.1, P11.2.2, LO, n7, l7, m12, hms, by omega, by omega, fun H12 S12 => ⟨true, rfl, iteF ?_⟩⟩
  have D12 := D11.same S12
  have A12 := A11.same S12
  have P12 := P11.same S12
  have Bk12 := Bk11.same S12
  clear S12 D11 A11 P11 Bk11
  refine ⟨_, rfl, by show 0 ≤ sizeLine; decide, fun p hp => ?_⟩
  have S13 := Rz.Same.new (o := .lst []) (Same.refl H12) hp
  have D13 := D12.same S13
  have A13 := A12.same S13
  have P13 := P12.same S13
  have Bk13 := Bk12.same S13
  refine ⟨dSds rs, dInts [], sds_at A13, dp_ints (SqL.of upd_same), sds_shaped g3, ints_shaped _, _, rfl, ?_⟩
  clear D12 A12 P12 Bk12
  generalize upd H12 p (.lst []) = H13 at S13 D13 A13 P13 Bk13 ⊢
  obtain ⟨db, tsb, hb, htb, hPb⟩ := id Bk13
  by_cases hr0 : rs = []
  · subst hr0
    rw [show PyData.eqv (dSds []) (dInts []) = true from rfl]
    refine iteT ⟨_, rfl, b, db, _, rfl, hb, rfl, b, tb, [], rfl, Bk13, g3, l6, fun H14 S14 => ⟨rfl, ?_⟩⟩
    rw [decide_eq_true (show V.str (wrT []) = V.str "" from rfl)]
    exact k _
  have l0 : 0 < rs.length := List.length_pos_iff.mpr hr0
  rw [show PyData.eqv (dSds rs) (dInts []) = false by
    cases rs with
    | nil => exact absurd rfl hr0
    | cons r q => rfl]
  refine iteF ⟨_, rfl, _, rfl, len_goS A13 ⟨d, rs.length, rfl, by omega, D13, fun H14 i i0 i1 D14 B14 => ?_⟩⟩
  obtain ⟨j, rfl⟩ := Int.eq_ofNat_of_zero_le i0
  have A14 := A13.but B14 (nin1 (Ne.symm ndl)) (drT D13 B14)
  have P14 := P13.but B14 nt nl nm (drT D13 B14)
  have Bk14 := Bk13.but B14 (nin1 nbd) (drN D13)
  have hb14 := B14.at hb (nin1 nbd)
  refine ⟨_, rfl, b, db, _, rfl, hb14, rfl, _, rfl, b, tb, rs, (j : Nat), rfl, Bk14, l6, by omega, fun _ H15 t' q r hr15 B15 Bk15 _ => ?_, fun bad => absurd ⟨i0, i1⟩ bad⟩
  have T15 := bkT Bk14 B15
  have A15 := A14.but B15 (nin1 (sb_ne A14 Bk14)) T15
  have P15 := P14.but B15 (fun e => by have h1 := P14.1; rw [e, hb14] at h1; cases h1) (fun e => by have h1 := P14.2.1; rw [e, hb14] at h1; cases h1) (fun e => by
    obtain ⟨_, h1, _⟩ := P14.2.2
    rw [e, hb14] at h1
    cases h1) T15
  rw [Int.toNat_natCast] at Bk15
  refine ⟨_, rfl, _, rfl, _, rfl, _, rfl, to_goS A15 (by omega) fun p1 G1 f1 Sg1 Ag1 => ?_⟩
  refine ⟨_, rfl, _, rfl, _, _, rfl, rfl, _, rfl, from_goS (i := j + 1) (A15.same Sg1) (by omega) fun p2 G2 f2 Sg2 Ag2 => ?_⟩
  refine cat_goS (Ag1.same Sg2) Ag2 (by rw [List.length_take, List.length_drop]; omega) fun p3 G3 f3 Sg3 Ag3 => ?_
  have S := (Sg1.trans Sg2).trans Sg3
  have sub : ∀ r ∈ rs.take j ++ rs.drop (j + 1), r ∈ rs := fun r hr => (List.mem_append.mp hr).elim List.mem_of_mem_take List.mem_of_mem_drop
  have P16 := P15.same S
  refine ⟨_, rfl, _, rfl, _, rfl, _, rfl, b, t', p3, t, lp, mp, z, _, n, ls, ms, bd, lw, rfl, Bk15.same S, Ag3, fun r hr => g3 r (sub r hr), fun r hr => oz3 r (sub r hr), by rw [List.length_append, List.length_take, List.length_drop]; omega, by omega, P16.1, P16.2.1, P16.2.2, LO, n7, l7, m12, hms, by omega, by omega, fun H17 _ => k _⟩
end
end Rz

namespace Rz
open PySem L2
def q0 : Qn := fun K => He.Fa.ok K (.free "abs")
def q1 : Qn := fun K => He.Fa.ok K (.free "bool")
def q2 : Qn := fun K => He.Fa.ok K (.free "bytes")
def q3 : Qn := fun K => He.Fa.ok K (.free "classmethod")
def q4 : Qn := fun K => He.Fa.ok K (.free "enumerate")
def q5 : Qn := fun K => He.Fa.ok K (.free "int")
def q6 : Qn := fun K => He.Fa.ok K (.free "isinstance")
def q7 : Qn := fun K => He.Fa.ok K (.free "len")
def q8 : Qn := fun K => He.Fa.ok K (.free "list")
def q9 : Qn := fun K => He.Fa.ok K (.free "property")
def q10 : Qn := fun K => He.Fa.ok K (.free "range")
def q11 : Qn := fun K => He.Fa.ok K (.free "set")
def q12 : Qn := fun K => He.Fa.ok K (.free "sorted")
def q13 : Qn := fun K => He.Fa.ok K (.free "str")
def q14 : Qn := fun K => He.Fa.ok K (.free "sum")
def q15 : Qn := fun K => He.Fa.ok K (.free "tuple")
def q16 : Qn := fun K => He.Fa.ok K (.str "SIGNS" "abcdefghijklmnopqrstuvwxyz")
def q17 : Qn := fun K => He.Fa.ok K (.int "GREATEST_HEIGHT" 9)
def q18 : Qn := fun K => He.Fa.ok K (.int "GREATEST_BOUND" 8)
def q19 : Qn := fun K => He.Fa.ok K (.int "MOST_SIGNS" 4)
def q20 : Qn := fun K => He.Fa.ok K (.int "MOST_RULES" 6)
def q21 : Qn := fun K => He.Fa.ok K (.int "MOST_STATES" 40)
def q22 : Qn := fun K => He.Fa.ok K (.glo "BadSign")
def q23 : Qn := fun K => He.eqO (PySem.W.findIn K (.ref (He.ga K "BadSign")) "at") (some none)
def q24 : Qn := fun K => decide (PySem.W.subIn K (.ref (He.ga K "BadSign")) (.type "BaseException") = some true)
def q25 : Qn := fun K => oexB K (He.ga K "BadSign")
def q26 : Qn := fun K => He.eqO (PySem.W.findIn K (.ref (He.ga K "BadSign")) "__setattr__") (some (some (.builtin "object.__setattr__")))
def q27 : Qn := fun K => decide (PySem.W.typeIn K (.ref (He.ga K "BadSign")) = some (.type "type"))
def q28 : Qn := fun K => PySem.W.keepIn K (.ref (He.ga K "BadSign"))
def q29 : Qn := fun K => xfB K (He.ga K "BadSign")
def q30 : Qn := fun K => exiB prg.main.file K ((Pa.meth "BadSign" "__init__").at K) (He.ga K "BadSign") "BadSign.__init__"
def q31 : Qn := fun K => He.eqO (PySem.W.findIn K (.ref (He.ga K "BadSign")) "__init__") (some (some (.ref ((Pa.meth "BadSign" "__init__").at K))))
def q32 : Qn := fun K => decide (PySem.W.typeIn K (.ref ((Pa.meth "BadSign" "__init__").at K)) = some (.type "function"))
def q33 : Qn := fun K => He.eqO (PySem.W.nsIn K cStatics "thirdparty.any") (some none)
def q34 : Qn := fun K => He.Fa.ok K (.free "super")
def q35 : Qn := fun K => He.eqO (PySem.W.ks_superIn K (He.ga K "BadSign") (He.ga K "BadSign") "__init__") (some (some (.builtin "ValueError.__init__")))
def q36 : Qn := fun K => decide (PySem.W.subIn K (.ref (He.ga K "BadSign")) (.type "ValueError") = some true)
def q37 : Qn := fun K => decide (PySem.W.mroIn K (He.ga K "BadSign") (.ref (He.ga K "BadSign")) = some true)
def q38 : Qn := fun K => He.Fa.ok K (.glo "BadHeight")
def q39 : Qn := fun K => He.eqO (PySem.W.findIn K (.ref (He.ga K "BadHeight")) "height") (some none)
def q40 : Qn := fun K => decide (PySem.W.subIn K (.ref (He.ga K "BadHeight")) (.type "BaseException") = some true)
def q41 : Qn := fun K => oexB K (He.ga K "BadHeight")
def q42 : Qn := fun K => He.eqO (PySem.W.findIn K (.ref (He.ga K "BadHeight")) "__setattr__") (some (some (.builtin "object.__setattr__")))
def q43 : Qn := fun K => decide (PySem.W.typeIn K (.ref (He.ga K "BadHeight")) = some (.type "type"))
def q44 : Qn := fun K => PySem.W.keepIn K (.ref (He.ga K "BadHeight"))
def q45 : Qn := fun K => xfB K (He.ga K "BadHeight")
def q46 : Qn := fun K => exiB prg.main.file K ((Pa.meth "BadHeight" "__init__").at K) (He.ga K "BadHeight") "BadHeight.__init__"
def q47 : Qn := fun K => He.eqO (PySem.W.findIn K (.ref (He.ga K "BadHeight")) "__init__") (some (some (.ref ((Pa.meth "BadHeight" "__init__").at K))))
def q48 : Qn := fun K => decide (PySem.W.typeIn K (.ref ((Pa.meth "BadHeight" "__init__").at K)) = some (.type "function"))
def q49 : Qn := fun K => He.eqO (PySem.W.ks_superIn K (He.ga K "BadHeight") (He.ga K "BadHeight") "__init__") (some (some (.builtin "ValueError.__init__")))
def q50 : Qn := fun K => decide (PySem.W.subIn K (.ref (He.ga K "BadHeight")) (.type "ValueError") = some true)
def q51 : Qn := fun K => decide (PySem.W.mroIn K (He.ga K "BadHeight") (.ref (He.ga K "BadHeight")) = some true)
def q52 : Qn := fun K => He.Fa.ok K (.glo "NoRule")
def q53 : Qn := fun K => He.eqO (PySem.W.findIn K (.ref (He.ga K "NoRule")) "number") (some none)
def q54 : Qn := fun K => decide (PySem.W.subIn K (.ref (He.ga K "NoRule")) (.type "BaseException") = some true)
def q55 : Qn := fun K => oexB K (He.ga K "NoRule")
def q56 : Qn := fun K => He.eqO (PySem.W.findIn K (.ref (He.ga K "NoRule")) "__setattr__") (some (some (.builtin "object.__setattr__")))
def q57 : Qn := fun K => decide (PySem.W.typeIn K (.ref (He.ga K "NoRule")) = some (.type "type"))
def q58 : Qn := fun K => PySem.W.keepIn K (.ref (He.ga K "NoRule"))
def q59 : Qn := fun K => xfB K (He.ga K "NoRule")
def q60 : Qn := fun K => exiB prg.main.file K ((Pa.meth "NoRule" "__init__").at K) (He.ga K "NoRule") "NoRule.__init__"
def q61 : Qn := fun K => He.eqO (PySem.W.findIn K (.ref (He.ga K "NoRule")) "__init__") (some (some (.ref ((Pa.meth "NoRule" "__init__").at K))))
def q62 : Qn := fun K => decide (PySem.W.typeIn K (.ref ((Pa.meth "NoRule" "__init__").at K)) = some (.type "function"))
def q63 : Qn := fun K => He.eqO (PySem.W.ks_superIn K (He.ga K "NoRule") (He.ga K "NoRule") "__init__") (some (some (.builtin "ValueError.__init__")))
def q64 : Qn := fun K => decide (PySem.W.subIn K (.ref (He.ga K "NoRule")) (.type "ValueError") = some true)
def q65 : Qn := fun K => decide (PySem.W.mroIn K (He.ga K "NoRule") (.ref (He.ga K "NoRule")) = some true)
def q66 : Qn := fun K => He.Fa.ok K (.glo "BadLine")
def q67 : Qn := fun K => He.eqO (PySem.W.findIn K (.ref (He.ga K "BadLine")) "line") (some none)
def q68 : Qn := fun K => decide (PySem.W.subIn K (.ref (He.ga K "BadLine")) (.type "BaseException") = some true)
def q69 : Qn := fun K => oexB K (He.ga K "BadLine")
def q70 : Qn := fun K => He.eqO (PySem.W.findIn K (.ref (He.ga K "BadLine")) "__setattr__") (some (some (.builtin "object.__setattr__")))
def q71 : Qn := fun K => decide (PySem.W.typeIn K (.ref (He.ga K "BadLine")) = some (.type "type"))
def q72 : Qn := fun K => PySem.W.keepIn K (.ref (He.ga K "BadLine"))
def q73 : Qn := fun K => xfB K (He.ga K "BadLine")
def q74 : Qn := fun K => exiB prg.main.file K ((Pa.meth "BadLine" "__init__").at K) (He.ga K "BadLine") "BadLine.__init__"
def q75 : Qn := fun K => He.eqO (PySem.W.findIn K (.ref (He.ga K "BadLine")) "__init__") (some (some (.ref ((Pa.meth "BadLine" "__init__").at K))))
def q76 : Qn := fun K => decide (PySem.W.typeIn K (.ref ((Pa.meth "BadLine" "__init__").at K)) = some (.type "function"))
def q77 : Qn := fun K => He.eqO (PySem.W.ks_superIn K (He.ga K "BadLine") (He.ga K "BadLine") "__init__") (some (some (.builtin "ValueError.__init__")))
def q78 : Qn := fun K => decide (PySem.W.subIn K (.ref (He.ga K "BadLine")) (.type "ValueError") = some true)
def q79 : Qn := fun K => decide (PySem.W.mroIn K (He.ga K "BadLine") (.ref (He.ga K "BadLine")) = some true)
def q80 : Qn := fun K => He.Fa.ok K (.glo "BadBound")
def q81 : Qn := fun K => He.eqO (PySem.W.findIn K (.ref (He.ga K "BadBound")) "most") (some none)
def q82 : Qn := fun K => decide (PySem.W.subIn K (.ref (He.ga K "BadBound")) (.type "BaseException") = some true)
def q83 : Qn := fun K => oexB K (He.ga K "BadBound")
def q84 : Qn := fun K => He.eqO (PySem.W.findIn K (.ref (He.ga K "BadBound")) "__setattr__") (some (some (.builtin "object.__setattr__")))
def q85 : Qn := fun K => decide (PySem.W.typeIn K (.ref (He.ga K "BadBound")) = some (.type "type"))
def q86 : Qn := fun K => PySem.W.keepIn K (.ref (He.ga K "BadBound"))
def q87 : Qn := fun K => xfB K (He.ga K "BadBound")
def q88 : Qn := fun K => exiB prg.main.file K ((Pa.meth "BadBound" "__init__").at K) (He.ga K "BadBound") "BadBound.__init__"
def q89 : Qn := fun K => He.eqO (PySem.W.findIn K (.ref (He.ga K "BadBound")) "__init__") (some (some (.ref ((Pa.meth "BadBound" "__init__").at K))))
def q90 : Qn := fun K => decide (PySem.W.typeIn K (.ref ((Pa.meth "BadBound" "__init__").at K)) = some (.type "function"))
def q91 : Qn := fun K => He.eqO (PySem.W.ks_superIn K (He.ga K "BadBound") (He.ga K "BadBound") "__init__") (some (some (.builtin "ValueError.__init__")))
def q92 : Qn := fun K => decide (PySem.W.subIn K (.ref (He.ga K "BadBound")) (.type "ValueError") = some true)
def q93 : Qn := fun K => decide (PySem.W.mroIn K (He.ga K "BadBound") (.ref (He.ga K "BadBound")) = some true)
def q94 : Qn := fun K => He.Fa.ok K (.glo "Uneven")
def q95 : Qn := fun K => He.Fa.ok K (.exc "Uneven")
def q96 : Qn := fun K => He.Fa.ok K (.glo "BadRule")
def q97 : Qn := fun K => He.Fa.ok K (.exc "BadRule")
def q98 : Qn := fun K => He.Fa.ok K (.glo "BookFull")
def q99 : Qn := fun K => He.Fa.ok K (.exc "BookFull")
def q100 : Qn := fun K => He.Fa.ok K (.glo "Useless")
def q101 : Qn := fun K => He.eqO (PySem.W.findIn K (.ref (He.ga K "Useless")) "state") (some none)
def q102 : Qn := fun K => decide (PySem.W.subIn K (.ref (He.ga K "Useless")) (.type "BaseException") = some true)
def q103 : Qn := fun K => oexB K (He.ga K "Useless")
def q104 : Qn := fun K => He.eqO (PySem.W.findIn K (.ref (He.ga K "Useless")) "__setattr__") (some (some (.builtin "object.__setattr__")))
def q105 : Qn := fun K => decide (PySem.W.typeIn K (.ref (He.ga K "Useless")) = some (.type "type"))
def q106 : Qn := fun K => PySem.W.keepIn K (.ref (He.ga K "Useless"))
def q107 : Qn := fun K => xfB K (He.ga K "Useless")
def q108 : Qn := fun K => exiB prg.main.file K ((Pa.meth "Useless" "__init__").at K) (He.ga K "Useless") "Useless.__init__"
def q109 : Qn := fun K => He.eqO (PySem.W.findIn K (.ref (He.ga K "Useless")) "__init__") (some (some (.ref ((Pa.meth "Useless" "__init__").at K))))
def q110 : Qn := fun K => decide (PySem.W.typeIn K (.ref ((Pa.meth "Useless" "__init__").at K)) = some (.type "function"))
def q111 : Qn := fun K => He.eqO (PySem.W.ks_superIn K (He.ga K "Useless") (He.ga K "Useless") "__init__") (some (some (.builtin "ValueError.__init__")))
def q112 : Qn := fun K => decide (PySem.W.subIn K (.ref (He.ga K "Useless")) (.type "ValueError") = some true)
def q113 : Qn := fun K => decide (PySem.W.mroIn K (He.ga K "Useless") (.ref (He.ga K "Useless")) = some true)
def q114 : Qn := fun K => He.Fa.ok K (.glo "BadLot")
def q115 : Qn := fun K => He.Fa.ok K (.exc "BadLot")
def q116 : Qn := fun K => He.Fa.ok K (.exm "BadSign" "BadSign" true)
def q117 : Qn := fun K => He.Fa.ok K (.exm "BadSign" "BadHeight" false)
def q118 : Qn := fun K => He.Fa.ok K (.exm "BadSign" "NoRule" false)
def q119 : Qn := fun K => He.Fa.ok K (.exm "BadSign" "BadLine" false)
def q120 : Qn := fun K => He.Fa.ok K (.exm "BadSign" "BadBound" false)
def q121 : Qn := fun K => He.Fa.ok K (.exm "BadSign" "Uneven" false)
def q122 : Qn := fun K => He.Fa.ok K (.exm "BadSign" "BadRule" false)
def q123 : Qn := fun K => He.Fa.ok K (.exm "BadSign" "BookFull" false)
def q124 : Qn := fun K => He.Fa.ok K (.exm "BadSign" "Useless" false)
def q125 : Qn := fun K => He.Fa.ok K (.exm "BadSign" "BadLot" false)
def q126 : Qn := fun K => He.Fa.ok K (.exm "BadHeight" "BadSign" false)
def q127 : Qn := fun K => He.Fa.ok K (.exm "BadHeight" "BadHeight" true)
def q128 : Qn := fun K => He.Fa.ok K (.exm "BadHeight" "NoRule" false)
def q129 : Qn := fun K => He.Fa.ok K (.exm "BadHeight" "BadLine" false)
def q130 : Qn := fun K => He.Fa.ok K (.exm "BadHeight" "BadBound" false)
def q131 : Qn := fun K => He.Fa.ok K (.exm "BadHeight" "Uneven" false)
def q132 : Qn := fun K => He.Fa.ok K (.exm "BadHeight" "BadRule" false)
def q133 : Qn := fun K => He.Fa.ok K (.exm "BadHeight" "BookFull" false)
def q134 : Qn := fun K => He.Fa.ok K (.exm "BadHeight" "Useless" false)
def q135 : Qn := fun K => He.Fa.ok K (.exm "BadHeight" "BadLot" false)
def q136 : Qn := fun K => He.Fa.ok K (.exm "NoRule" "BadSign" false)
def q137 : Qn := fun K => He.Fa.ok K (.exm "NoRule" "BadHeight" false)
def q138 : Qn := fun K => He.Fa.ok K (.exm "NoRule" "NoRule" true)
def q139 : Qn := fun K => He.Fa.ok K (.exm "NoRule" "BadLine" false)
def q140 : Qn := fun K => He.Fa.ok K (.exm "NoRule" "BadBound" false)
def q141 : Qn := fun K => He.Fa.ok K (.exm "NoRule" "Uneven" false)
def q142 : Qn := fun K => He.Fa.ok K (.exm "NoRule" "BadRule" false)
def q143 : Qn := fun K => He.Fa.ok K (.exm "NoRule" "BookFull" false)
def q144 : Qn := fun K => He.Fa.ok K (.exm "NoRule" "Useless" false)
def q145 : Qn := fun K => He.Fa.ok K (.exm "NoRule" "BadLot" false)
def q146 : Qn := fun K => He.Fa.ok K (.exm "BadLine" "BadSign" false)
def q147 : Qn := fun K => He.Fa.ok K (.exm "BadLine" "BadHeight" false)
def q148 : Qn := fun K => He.Fa.ok K (.exm "BadLine" "NoRule" false)
def q149 : Qn := fun K => He.Fa.ok K (.exm "BadLine" "BadLine" true)
def q150 : Qn := fun K => He.Fa.ok K (.exm "BadLine" "BadBound" false)
def q151 : Qn := fun K => He.Fa.ok K (.exm "BadLine" "Uneven" false)
def q152 : Qn := fun K => He.Fa.ok K (.exm "BadLine" "BadRule" false)
def q153 : Qn := fun K => He.Fa.ok K (.exm "BadLine" "BookFull" false)
def q154 : Qn := fun K => He.Fa.ok K (.exm "BadLine" "Useless" false)
def q155 : Qn := fun K => He.Fa.ok K (.exm "BadLine" "BadLot" false)
def q156 : Qn := fun K => He.Fa.ok K (.exm "BadBound" "BadSign" false)
def q157 : Qn := fun K => He.Fa.ok K (.exm "BadBound" "BadHeight" false)
def q158 : Qn := fun K => He.Fa.ok K (.exm "BadBound" "NoRule" false)
def q159 : Qn := fun K => He.Fa.ok K (.exm "BadBound" "BadLine" false)
def q160 : Qn := fun K => He.Fa.ok K (.exm "BadBound" "BadBound" true)
def q161 : Qn := fun K => He.Fa.ok K (.exm "BadBound" "Uneven" false)
def q162 : Qn := fun K => He.Fa.ok K (.exm "BadBound" "BadRule" false)
def q163 : Qn := fun K => He.Fa.ok K (.exm "BadBound" "BookFull" false)
def q164 : Qn := fun K => He.Fa.ok K (.exm "BadBound" "Useless" false)
def q165 : Qn := fun K => He.Fa.ok K (.exm "BadBound" "BadLot" false)
def q166 : Qn := fun K => He.Fa.ok K (.exm "Uneven" "BadSign" false)
def q167 : Qn := fun K => He.Fa.ok K (.exm "Uneven" "BadHeight" false)
def q168 : Qn := fun K => He.Fa.ok K (.exm "Uneven" "NoRule" false)
def q169 : Qn := fun K => He.Fa.ok K (.exm "Uneven" "BadLine" false)
def q170 : Qn := fun K => He.Fa.ok K (.exm "Uneven" "BadBound" false)
def q171 : Qn := fun K => He.Fa.ok K (.exm "Uneven" "Uneven" true)
def q172 : Qn := fun K => He.Fa.ok K (.exm "Uneven" "BadRule" false)
def q173 : Qn := fun K => He.Fa.ok K (.exm "Uneven" "BookFull" false)
def q174 : Qn := fun K => He.Fa.ok K (.exm "Uneven" "Useless" false)
def q175 : Qn := fun K => He.Fa.ok K (.exm "Uneven" "BadLot" false)
def q176 : Qn := fun K => He.Fa.ok K (.exm "BadRule" "BadSign" false)
def q177 : Qn := fun K => He.Fa.ok K (.exm "BadRule" "BadHeight" false)
def q178 : Qn := fun K => He.Fa.ok K (.exm "BadRule" "NoRule" false)
def q179 : Qn := fun K => He.Fa.ok K (.exm "BadRule" "BadLine" false)
def q180 : Qn := fun K => He.Fa.ok K (.exm "BadRule" "BadBound" false)
def q181 : Qn := fun K => He.Fa.ok K (.exm "BadRule" "Uneven" false)
def q182 : Qn := fun K => He.Fa.ok K (.exm "BadRule" "BadRule" true)
def q183 : Qn := fun K => He.Fa.ok K (.exm "BadRule" "BookFull" false)
def q184 : Qn := fun K => He.Fa.ok K (.exm "BadRule" "Useless" false)
def q185 : Qn := fun K => He.Fa.ok K (.exm "BadRule" "BadLot" false)
def q186 : Qn := fun K => He.Fa.ok K (.exm "BookFull" "BadSign" false)
def q187 : Qn := fun K => He.Fa.ok K (.exm "BookFull" "BadHeight" false)
def q188 : Qn := fun K => He.Fa.ok K (.exm "BookFull" "NoRule" false)
def q189 : Qn := fun K => He.Fa.ok K (.exm "BookFull" "BadLine" false)
def q190 : Qn := fun K => He.Fa.ok K (.exm "BookFull" "BadBound" false)
def q191 : Qn := fun K => He.Fa.ok K (.exm "BookFull" "Uneven" false)
def q192 : Qn := fun K => He.Fa.ok K (.exm "BookFull" "BadRule" false)
def q193 : Qn := fun K => He.Fa.ok K (.exm "BookFull" "BookFull" true)
def q194 : Qn := fun K => He.Fa.ok K (.exm "BookFull" "Useless" false)
def q195 : Qn := fun K => He.Fa.ok K (.exm "BookFull" "BadLot" false)
def q196 : Qn := fun K => He.Fa.ok K (.exm "Useless" "BadSign" false)
def q197 : Qn := fun K => He.Fa.ok K (.exm "Useless" "BadHeight" false)
def q198 : Qn := fun K => He.Fa.ok K (.exm "Useless" "NoRule" false)
def q199 : Qn := fun K => He.Fa.ok K (.exm "Useless" "BadLine" false)
def q200 : Qn := fun K => He.Fa.ok K (.exm "Useless" "BadBound" false)
def q201 : Qn := fun K => He.Fa.ok K (.exm "Useless" "Uneven" false)
def q202 : Qn := fun K => He.Fa.ok K (.exm "Useless" "BadRule" false)
def q203 : Qn := fun K => He.Fa.ok K (.exm "Useless" "BookFull" false)
def q204 : Qn := fun K => He.Fa.ok K (.exm "Useless" "Useless" true)
def q205 : Qn := fun K => He.Fa.ok K (.exm "Useless" "BadLot" true)
def q206 : Qn := fun K => He.Fa.ok K (.exm "BadLot" "BadSign" false)
def q207 : Qn := fun K => He.Fa.ok K (.exm "BadLot" "BadHeight" false)
def q208 : Qn := fun K => He.Fa.ok K (.exm "BadLot" "NoRule" false)
def q209 : Qn := fun K => He.Fa.ok K (.exm "BadLot" "BadLine" false)
def q210 : Qn := fun K => He.Fa.ok K (.exm "BadLot" "BadBound" false)
def q211 : Qn := fun K => He.Fa.ok K (.exm "BadLot" "Uneven" false)
def q212 : Qn := fun K => He.Fa.ok K (.exm "BadLot" "BadRule" false)
def q213 : Qn := fun K => He.Fa.ok K (.exm "BadLot" "BookFull" false)
def q214 : Qn := fun K => He.Fa.ok K (.exm "BadLot" "Useless" false)
def q215 : Qn := fun K => He.Fa.ok K (.exm "BadLot" "BadLot" true)
def q216 : Qn := fun K => He.Fa.ok K (.glo "Rule")
def q217 : Qn := fun K => He.Fa.ok K (.cls "Rule")
def q218 : Qn := fun K => PySem.W.makesIn K (He.ga K "Rule")
def q219 : Qn := fun K => PySem.W.keepIn K (.ref (He.ga K "Rule"))
def q220 : Qn := fun K => insB K (He.ga K "Rule")
def q221 : Qn := fun K => PySem.W.selfFirst K (He.ga K "Rule")
def q222 : Qn := fun K => He.Fa.ok K (.noat "Rule" "left")
def q223 : Qn := fun K => He.Fa.ok K (.noat "Rule" "right")
def q224 : Qn := fun K => He.Fa.ok K (.glo "Book")
def q225 : Qn := fun K => He.Fa.ok K (.cls "Book")
def q226 : Qn := fun K => PySem.W.makesIn K (He.ga K "Book")
def q227 : Qn := fun K => PySem.W.keepIn K (.ref (He.ga K "Book"))
def q228 : Qn := fun K => insB K (He.ga K "Book")
def q229 : Qn := fun K => PySem.W.selfFirst K (He.ga K "Book")
def q230 : Qn := fun K => He.Fa.ok K (.noat "Book" "_rules")
def q231 : Qn := fun K => He.Fa.ok K (.glo "Lot")
def q232 : Qn := fun K => He.Fa.ok K (.cls "Lot")
def q233 : Qn := fun K => PySem.W.makesIn K (He.ga K "Lot")
def q234 : Qn := fun K => PySem.W.keepIn K (.ref (He.ga K "Lot"))
def q235 : Qn := fun K => insB K (He.ga K "Lot")
def q236 : Qn := fun K => PySem.W.selfFirst K (He.ga K "Lot")
def q237 : Qn := fun K => He.Fa.ok K (.noat "Lot" "_states")
def q238 : Qn := fun K => He.Fa.ok K (.noat "Lot" "_last")
def q239 : Qn := fun K => He.Fa.ok K (.noat "Lot" "_moves")
def q240 : Qn := fun K => He.Fa.ok K (.noat "Lot" "_leads")
def q241 : Qn := fun K => He.Fa.ok K (.glo "is_sign")
def q242 : Qn := fun K => He.Fa.ok K (.glo "check_text")
def q243 : Qn := fun K => He.Fa.ok K (.glo "decoded")
def q244 : Qn := fun K => He.Fa.ok K (.glo "check_height")
def q245 : Qn := fun K => He.Fa.ok K (.glo "check_bound")
def q246 : Qn := fun K => He.Fa.ok K (.meth "Rule" "__init__")
def q247 : Qn := fun K => He.Fa.ok K (.meth "Rule" "__str__")
def q248 : Qn := fun K => He.Fa.ok K (.meth "Book" "__init__")
def q249 : Qn := fun K => prpB K (He.ga K "Book") "signs"
def q250 : Qn := fun K => He.Fa.ok K (.meth "Book" "_numbered")
def q251 : Qn := fun K => He.Fa.ok K (.meth "Book" "drop")
def q252 : Qn := fun K => He.Fa.ok K (.meth "Book" "written")
def q253 : Qn := fun K => He.Fa.ok K (.glo "_read_rule")
def q254 : Qn := fun K => cmtB K "Book" "read"
def q255 : Qn := fun K => He.Fa.ok K (.glo "_check_states")
def q256 : Qn := fun K => He.Fa.ok K (.glo "_leads_of")
def q257 : Qn := fun K => He.Fa.ok K (.glo "led_to")
def q258 : Qn := fun K => He.Fa.ok K (.glo "_check_useful")
def q259 : Qn := fun K => He.Fa.ok K (.meth "Lot" "__init__")
def q260 : Qn := fun K => prpB K (He.ga K "Lot") "moves"
def q261 : Qn := fun K => He.Fa.ok K (.glo "_law_pool")
def q262 : Qn := fun K => He.Fa.ok K (.glo "_law_pick")
def q263 : Qn := fun K => He.Fa.ok K (.glo "_law_alphabet")
def q264 : Qn := fun K => He.Fa.ok K (.glo "_law_word_of")
def q265 : Qn := fun K => He.Fa.ok K (.glo "_law_is_int")
def q266 : Qn := fun K => He.Fa.ok K (.glo "_law_book_of")
def q267 : Qn := fun K => He.Fa.ok K (.glo "_law_led_from")
def q268 : Qn := fun K => He.Fa.ok K (.glo "_law_lot_of")
def q269 : Qn := fun K => He.Fa.ok K (.glo "_law_lines_of")
def q270 : Qn := fun K => He.Fa.ok K (.meth "Book" "_summed")
def q271 : Qn := fun K => He.Fa.ok K (.meth "Book" "_sizes_at_bound")
def q272 : Qn := fun K => He.Fa.ok K (.meth "Book" "_sizes_below")
def q273 : Qn := fun K => He.Fa.ok K (.meth "Book" "grown")
def q274 : Qn := fun K => He.Fa.ok K (.glo "machine_size")
def q275 : Qn := fun K => He.Fa.ok K (.glo "_law_same")
def q276 : Qn := fun K => He.Fa.ok K (.glo "_law_grown_told")
def q277 : Qn := fun K => He.Fa.ok K (.glo "_law_asked")
def q278 : Qn := fun K => He.Fa.ok K (.glo "_law_size_table")
def q279 : Qn := fun K => He.Fa.ok K (.glo "_law_due_of")
def q280 : Qn := fun K => He.Fa.ok K (.meth "Book" "growths")
def q281 : Qn := fun K => He.Fa.ok K (.glo "_law_places_of")
def q282 : Qn := fun K => He.Fa.ok K (.glo "_law_fine")
def q283 : Qn := fun K => He.Fa.ok K (.glo "law")
def d_BadSign_init : DefR := ⟨Pa.meth "BadSign" "__init__", "__init__", "BadSign.__init__", defArgs s_BadSign_init, defBody s_BadSign_init, defScope s_BadSign_init, ["__class__"], [], []⟩
def d_BadHeight_init : DefR := ⟨Pa.meth "BadHeight" "__init__", "__init__", "BadHeight.__init__", defArgs s_BadHeight_init, defBody s_BadHeight_init, defScope s_BadHeight_init, ["__class__"], [], []⟩
def d_NoRule_init : DefR := ⟨Pa.meth "NoRule" "__init__", "__init__", "NoRule.__init__", defArgs s_NoRule_init, defBody s_NoRule_init, defScope s_NoRule_init, ["__class__"], [], []⟩
def d_BadLine_init : DefR := ⟨Pa.meth "BadLine" "__init__", "__init__", "BadLine.__init__", defArgs s_BadLine_init, defBody s_BadLine_init, defScope s_BadLine_init, ["__class__"], [], []⟩
def d_BadBound_init : DefR := ⟨Pa.meth "BadBound" "__init__", "__init__", "BadBound.__init__", defArgs s_BadBound_init, defBody s_BadBound_init, defScope s_BadBound_init, ["__class__"], [], []⟩
def d_Useless_init : DefR := ⟨Pa.meth "Useless" "__init__", "__init__", "Useless.__init__", defArgs s_Useless_init, defBody s_Useless_init, defScope s_Useless_init, ["__class__"], [], []⟩
def d_is_sign : DefR := ⟨Pa.glo "is_sign", "is_sign", "is_sign", defArgs s_is_sign, defBody s_is_sign, defScope s_is_sign, [], [], []⟩
def d_check_text : DefR := ⟨Pa.glo "check_text", "check_text", "check_text", defArgs s_check_text, defBody s_check_text, defScope s_check_text, [], [], []⟩
def d_decoded : DefR := ⟨Pa.glo "decoded", "decoded", "decoded", defArgs s_decoded, defBody s_decoded, defScope s_decoded, [], [], []⟩
def d_check_height : DefR := ⟨Pa.glo "check_height", "check_height", "check_height", defArgs s_check_height, defBody s_check_height, defScope s_check_height, [], [], []⟩
def d_check_bound : DefR := ⟨Pa.glo "check_bound", "check_bound", "check_bound", defArgs s_check_bound, defBody s_check_bound, defScope s_check_bound, [], [], []⟩
def d_Rule_init : DefR := ⟨Pa.meth "Rule" "__init__", "__init__", "Rule.__init__", defArgs s_Rule_init, defBody s_Rule_init, defScope s_Rule_init, [], [.str ""], []⟩
def d_Rule_str : DefR := ⟨Pa.meth "Rule" "__str__", "__str__", "Rule.__str__", defArgs s_Rule_str, defBody s_Rule_str, defScope s_Rule_str, [], [], []⟩
def d_Book_init : DefR := ⟨Pa.meth "Book" "__init__", "__init__", "Book.__init__", defArgs s_Book_init, defBody s_Book_init, defScope s_Book_init, [], [], []⟩
def d_Book_signs : DefR := ⟨Pa.prop "Book" "signs", "signs", "Book.signs", defArgs s_Book_signs, defBody s_Book_signs, defScope s_Book_signs, [], [], []⟩
def d_Book_numbered : DefR := ⟨Pa.meth "Book" "_numbered", "_numbered", "Book._numbered", defArgs s_Book_numbered, defBody s_Book_numbered, defScope s_Book_numbered, [], [], []⟩
def d_Book_drop : DefR := ⟨Pa.meth "Book" "drop", "drop", "Book.drop", defArgs s_Book_drop, defBody s_Book_drop, defScope s_Book_drop, [], [], []⟩
def d_Book_written : DefR := ⟨Pa.meth "Book" "written", "written", "Book.written", defArgs s_Book_written, defBody s_Book_written, defScope s_Book_written, [], [], []⟩
def d__read_rule : DefR := ⟨Pa.glo "_read_rule", "_read_rule", "_read_rule", defArgs s__read_rule, defBody s__read_rule, defScope s__read_rule, [], [], []⟩
def d_Book_read : DefR := ⟨Pa.cmeth "Book" "read", "read", "Book.read", defArgs s_Book_read, defBody s_Book_read, defScope s_Book_read, [], [], []⟩
def d__check_states : DefR := ⟨Pa.glo "_check_states", "_check_states", "_check_states", defArgs s__check_states, defBody s__check_states, defScope s__check_states, [], [], []⟩
def d__leads_of : DefR := ⟨Pa.glo "_leads_of", "_leads_of", "_leads_of", defArgs s__leads_of, defBody s__leads_of, defScope s__leads_of, [], [], []⟩
def d_led_to : DefR := ⟨Pa.glo "led_to", "led_to", "led_to", defArgs s_led_to, defBody s_led_to, defScope s_led_to, [], [], []⟩
def d__check_useful : DefR := ⟨Pa.glo "_check_useful", "_check_useful", "_check_useful", defArgs s__check_useful, defBody s__check_useful, defScope s__check_useful, [], [], []⟩
def d_Lot_init : DefR := ⟨Pa.meth "Lot" "__init__", "__init__", "Lot.__init__", defArgs s_Lot_init, defBody s_Lot_init, defScope s_Lot_init, [], [], []⟩
def d_Lot_moves : DefR := ⟨Pa.prop "Lot" "moves", "moves", "Lot.moves", defArgs s_Lot_moves, defBody s_Lot_moves, defScope s_Lot_moves, [], [], []⟩
def d__law_pool : DefR := ⟨Pa.glo "_law_pool", "_law_pool", "_law_pool", defArgs s__law_pool, defBody s__law_pool, defScope s__law_pool, [], [], []⟩
def d__law_pick : DefR := ⟨Pa.glo "_law_pick", "_law_pick", "_law_pick", defArgs s__law_pick, defBody s__law_pick, defScope s__law_pick, [], [], []⟩
def d__law_alphabet : DefR := ⟨Pa.glo "_law_alphabet", "_law_alphabet", "_law_alphabet", defArgs s__law_alphabet, defBody s__law_alphabet, defScope s__law_alphabet, [], [], []⟩
def d__law_word_of : DefR := ⟨Pa.glo "_law_word_of", "_law_word_of", "_law_word_of", defArgs s__law_word_of, defBody s__law_word_of, defScope s__law_word_of, [], [], []⟩
def d__law_is_int : DefR := ⟨Pa.glo "_law_is_int", "_law_is_int", "_law_is_int", defArgs s__law_is_int, defBody s__law_is_int, defScope s__law_is_int, [], [], []⟩
def d__law_book_of : DefR := ⟨Pa.glo "_law_book_of", "_law_book_of", "_law_book_of", defArgs s__law_book_of, defBody s__law_book_of, defScope s__law_book_of, [], [], []⟩
def d__law_led_from : DefR := ⟨Pa.glo "_law_led_from", "_law_led_from", "_law_led_from", defArgs s__law_led_from, defBody s__law_led_from, defScope s__law_led_from, [], [], []⟩
def d__law_lot_of : DefR := ⟨Pa.glo "_law_lot_of", "_law_lot_of", "_law_lot_of", defArgs s__law_lot_of, defBody s__law_lot_of, defScope s__law_lot_of, [], [], []⟩
def d__law_lines_of : DefR := ⟨Pa.glo "_law_lines_of", "_law_lines_of", "_law_lines_of", defArgs s__law_lines_of, defBody s__law_lines_of, defScope s__law_lines_of, [], [], []⟩
def d_Book_summed : DefR := ⟨Pa.meth "Book" "_summed", "_summed", "Book._summed", defArgs s_Book_summed, defBody s_Book_summed, defScope s_Book_summed, [], [], []⟩
def d_Book_sizes_at_bound : DefR := ⟨Pa.meth "Book" "_sizes_at_bound", "_sizes_at_bound", "Book._sizes_at_bound", defArgs s_Book_sizes_at_bound, defBody s_Book_sizes_at_bound, defScope s_Book_sizes_at_bound, [], [], []⟩
def d_Book_sizes_below : DefR := ⟨Pa.meth "Book" "_sizes_below", "_sizes_below", "Book._sizes_below", defArgs s_Book_sizes_below, defBody s_Book_sizes_below, defScope s_Book_sizes_below, [], [], []⟩
def d_Book_grown : DefR := ⟨Pa.meth "Book" "grown", "grown", "Book.grown", defArgs s_Book_grown, defBody s_Book_grown, defScope s_Book_grown, [], [], [("height", .int 0)]⟩
def d_machine_size : DefR := ⟨Pa.glo "machine_size", "machine_size", "machine_size", defArgs s_machine_size, defBody s_machine_size, defScope s_machine_size, [], [], []⟩
def d__law_same : DefR := ⟨Pa.glo "_law_same", "_law_same", "_law_same", defArgs s__law_same, defBody s__law_same, defScope s__law_same, [], [], []⟩
def d__law_grown_told : DefR := ⟨Pa.glo "_law_grown_told", "_law_grown_told", "_law_grown_told", defArgs s__law_grown_told, defBody s__law_grown_told, defScope s__law_grown_told, [], [], []⟩
def d__law_asked : DefR := ⟨Pa.glo "_law_asked", "_law_asked", "_law_asked", defArgs s__law_asked, defBody s__law_asked, defScope s__law_asked, [], [], []⟩
def d__law_size_table : DefR := ⟨Pa.glo "_law_size_table", "_law_size_table", "_law_size_table", defArgs s__law_size_table, defBody s__law_size_table, defScope s__law_size_table, [], [], []⟩
def d__law_due_of : DefR := ⟨Pa.glo "_law_due_of", "_law_due_of", "_law_due_of", defArgs s__law_due_of, defBody s__law_due_of, defScope s__law_due_of, [], [], []⟩
def d_Book_growths : DefR := ⟨Pa.meth "Book" "growths", "growths", "Book.growths", defArgs s_Book_growths, defBody s_Book_growths, defScope s_Book_growths, [], [], []⟩
def d__law_places_of : DefR := ⟨Pa.glo "_law_places_of", "_law_places_of", "_law_places_of", defArgs s__law_places_of, defBody s__law_places_of, defScope s__law_places_of, [], [], []⟩
def d__law_fine : DefR := ⟨Pa.glo "_law_fine", "_law_fine", "_law_fine", defArgs s__law_fine, defBody s__law_fine, defScope s__law_fine, [], [], []⟩
def d_law : DefR := ⟨Pa.glo "law", "law", "law", defArgs s_law, defBody s_law, defScope s_law, [], [], []⟩
def hq0 : List Qn := [q0, q1, q2, q3, q4, q5, q6, q7, q8, q9, q10, q11, q12, q13, q14, q15, q16, q17, q18, q19, q20, q21, q22, q23, q24, q25, q26, q27, q28, q29]
def hq1 : List Qn := [q30, q31, q32, q33, q34, q35, q36, q37, q38, q39, q40, q41, q42, q43, q44, q45, q46, q47, q48, q49, q50, q51, q52, q53, q54, q55, q56, q57, q58, q59]
def hq2 : List Qn := [q60, q61, q62, q63, q64, q65, q66, q67, q68, q69, q70, q71, q72, q73, q74, q75, q76, q77, q78, q79, q80, q81, q82, q83, q84, q85, q86, q87, q88, q89]
def hq3 : List Qn := [q90, q91, q92, q93, q94, q95, q96, q97, q98, q99, q100, q101, q102, q103, q104, q105, q106, q107, q108, q109, q110, q111, q112, q113, q114, q115, q116, q117, q118, q119]
def hq4 : List Qn := [q120, q121, q122, q123, q124, q125, q126, q127, q128, q129, q130, q131, q132, q133, q134, q135, q136, q137, q138, q139, q140, q141, q142, q143, q144, q145, q146, q147, q148, q149]
def hq5 : List Qn := [q150, q151, q152, q153, q154, q155, q156, q157, q158, q159, q160, q161, q162, q163, q164, q165, q166, q167, q168, q169, q170, q171, q172, q173, q174, q175, q176, q177, q178, q179]
def hq6 : List Qn := [q180, q181, q182, q183, q184, q185, q186, q187, q188, q189, q190, q191, q192, q193, q194, q195, q196, q197, q198, q199, q200, q201, q202, q203, q204, q205, q206, q207, q208, q209]
def hq7 : List Qn := [q210, q211, q212, q213, q214, q215, q216, q217, q218, q219, q220, q221, q222, q223, q224, q225, q226, q227, q228, q229, q230, q231, q232, q233, q234, q235, q236, q237, q238, q239]
def hq8 : List Qn := [q240, q241, q242, q243, q244, q245, q246, q247, q248, q249, q250, q251, q252, q253, q254, q255, q256, q257, q258, q259, q260, q261, q262, q263, q264, q265, q266, q267, q268, q269]
def hq9 : List Qn := [q270, q271, q272, q273, q274, q275, q276, q277, q278, q279, q280, q281, q282, q283]
def hQs : List Qn := hq0 ++ (hq1 ++ (hq2 ++ (hq3 ++ (hq4 ++ (hq5 ++ (hq6 ++ (hq7 ++ (hq8 ++ (hq9)))))))))
theorem in_q0 : q0 ∈ hQs := List.mem_append_left _ (List.mem_of_getElem? (l := hq0) (i := 0) rfl)
theorem in_q1 : q1 ∈ hQs := List.mem_append_left _ (List.mem_of_getElem? (l := hq0) (i := 1) rfl)
theorem in_q2 : q2 ∈ hQs := List.mem_append_left _ (List.mem_of_getElem? (l := hq0) (i := 2) rfl)
theorem in_q3 : q3 ∈ hQs := List.mem_append_left _ (List.mem_of_getElem? (l := hq0) (i := 3) rfl)
theorem in_q4 : q4 ∈ hQs := List.mem_append_left _ (List.mem_of_getElem? (l := hq0) (i := 4) rfl)
theorem in_q5 : q5 ∈ hQs := List.mem_append_left _ (List.mem_of_getElem? (l := hq0) (i := 5) rfl)
theorem in_q6 : q6 ∈ hQs := List.mem_append_left _ (List.mem_of_getElem? (l := hq0) (i := 6) rfl)
theorem in_q7 : q7 ∈ hQs := List.mem_append_left _ (List.mem_of_getElem? (l := hq0) (i := 7) rfl)
theorem in_q8 : q8 ∈ hQs := List.mem_append_left _ (List.mem_of_getElem? (l := hq0) (i := 8) rfl)
theorem in_q9 : q9 ∈ hQs := List.mem_append_left _ (List.mem_of_getElem? (l := hq0) (i := 9) rfl)
theorem in_q10 : q10 ∈ hQs := List.mem_append_left _ (List.mem_of_getElem? (l := hq0) (i := 10) rfl)
theorem in_q11 : q11 ∈ hQs := List.mem_append_left _ (List.mem_of_getElem? (l := hq0) (i := 11) rfl)
theorem in_q12 : q12 ∈ hQs := List.mem_append_left _ (List.mem_of_getElem? (l := hq0) (i := 12) rfl)
theorem in_q13 : q13 ∈ hQs := List.mem_append_left _ (List.mem_of_getElem? (l := hq0) (i := 13) rfl)
theorem in_q14 : q14 ∈ hQs := List.mem_append_left _ (List.mem_of_getElem? (l := hq0) (i := 14) rfl)
theorem in_q15 : q15 ∈ hQs := List.mem_append_left _ (List.mem_of_getElem? (l := hq0) (i := 15) rfl)
theorem in_q16 : q16 ∈ hQs := List.mem_append_left _ (List.mem_of_getElem? (l := hq0) (i := 16) rfl)
theorem in_q17 : q17 ∈ hQs := List.mem_append_left _ (List.mem_of_getElem? (l := hq0) (i := 17) rfl)
theorem in_q18 : q18 ∈ hQs := List.mem_append_left _ (List.mem_of_getElem? (l := hq0) (i := 18) rfl)
theorem in_q19 : q19 ∈ hQs := List.mem_append_left _ (List.mem_of_getElem? (l := hq0) (i := 19) rfl)
theorem in_q20 : q20 ∈ hQs := List.mem_append_left _ (List.mem_of_getElem? (l := hq0) (i := 20) rfl)
theorem in_q21 : q21 ∈ hQs := List.mem_append_left _ (List.mem_of_getElem? (l := hq0) (i := 21) rfl)
theorem in_q22 : q22 ∈ hQs := List.mem_append_left _ (List.mem_of_getElem? (l := hq0) (i := 22) rfl)
theorem in_q23 : q23 ∈ hQs := List.mem_append_left _ (List.mem_of_getElem? (l := hq0) (i := 23) rfl)
theorem in_q24 : q24 ∈ hQs := List.mem_append_left _ (List.mem_of_getElem? (l := hq0) (i := 24) rfl)
theorem in_q25 : q25 ∈ hQs := List.mem_append_left _ (List.mem_of_getElem? (l := hq0) (i := 25) rfl)
theorem in_q26 : q26 ∈ hQs := List.mem_append_left _ (List.mem_of_getElem? (l := hq0) (i := 26) rfl)
theorem in_q27 : q27 ∈ hQs := List.mem_append_left _ (List.mem_of_getElem? (l := hq0) (i := 27) rfl)
theorem in_q28 : q28 ∈ hQs := List.mem_append_left _ (List.mem_of_getElem? (l := hq0) (i := 28) rfl)
theorem in_q29 : q29 ∈ hQs := List.mem_append_left _ (List.mem_of_getElem? (l := hq0) (i := 29) rfl)
theorem in_q30 : q30 ∈ hQs := List.mem_append_right _ (List.mem_append_left _ (List.mem_of_getElem? (l := hq1) (i := 0) rfl))
theorem in_q31 : q31 ∈ hQs := List.mem_append_right _ (List.mem_append_left _ (List.mem_of_getElem? (l := hq1) (i := 1) rfl))
theorem in_q32 : q32 ∈ hQs := List.mem_append_right _ (List.mem_append_left _ (List.mem_of_getElem? (l := hq1) (i := 2) rfl))
theorem in_q33 : q33 ∈ hQs := List.mem_append_right _ (List.mem_append_left _ (List.mem_of_getElem? (l := hq1) (i := 3) rfl))
theorem in_q34 : q34 ∈ hQs := List.mem_append_right _ (List.mem_append_left _ (List.mem_of_getElem? (l := hq1) (i := 4) rfl))
theorem in_q35 : q35 ∈ hQs := List.mem_append_right _ (List.mem_append_left _ (List.mem_of_getElem? (l := hq1) (i := 5) rfl))
theorem in_q36 : q36 ∈ hQs := List.mem_append_right _ (List.mem_append_left _ (List.mem_of_getElem? (l := hq1) (i := 6) rfl))
theorem in_q37 : q37 ∈ hQs := List.mem_append_right _ (List.mem_append_left _ (List.mem_of_getElem? (l := hq1) (i := 7) rfl))
theorem in_q38 : q38 ∈ hQs := List.mem_append_right _ (List.mem_append_left _ (List.mem_of_getElem? (l := hq1) (i := 8) rfl))
theorem in_q39 : q39 ∈ hQs := List.mem_append_right _ (List.mem_append_left _ (List.mem_of_getElem? (l := hq1) (i := 9) rfl))
theorem in_q40 : q40 ∈ hQs := List.mem_append_right _ (List.mem_append_left _ (List.mem_of_getElem? (l := hq1) (i := 10) rfl))
theorem in_q41 : q41 ∈ hQs := List.mem_append_right _ (List.mem_append_left _ (List.mem_of_getElem? (l := hq1) (i := 11) rfl))
theorem in_q42 : q42 ∈ hQs := List.mem_append_right _ (List.mem_append_left _ (List.mem_of_getElem? (l := hq1) (i := 12) rfl))
theorem in_q43 : q43 ∈ hQs := List.mem_append_right _ (List.mem_append_left _ (List.mem_of_getElem? (l := hq1) (i := 13) rfl))
theorem in_q44 : q44 ∈ hQs := List.mem_append_right _ (List.mem_append_left _ (List.mem_of_getElem? (l := hq1) (i := 14) rfl))
theorem in_q45 : q45 ∈ hQs := List.mem_append_right _ (List.mem_append_left _ (List.mem_of_getElem? (l := hq1) (i := 15) rfl))
theorem in_q46 : q46 ∈ hQs := List.mem_append_right _ (List.mem_append_left _ (List.mem_of_getElem? (l := hq1) (i := 16) rfl))
theorem in_q47 : q47 ∈ hQs := List.mem_append_right _ (List.mem_append_left _ (List.mem_of_getElem? (l := hq1) (i := 17) rfl))
theorem in_q48 : q48 ∈ hQs := List.mem_append_right _ (List.mem_append_left _ (List.mem_of_getElem? (l := hq1) (i := 18) rfl))
theorem in_q49 : q49 ∈ hQs := List.mem_append_right _ (List.mem_append_left _ (List.mem_of_getElem? (l := hq1) (i := 19) rfl))
theorem in_q50 : q50 ∈ hQs := List.mem_append_right _ (List.mem_append_left _ (List.mem_of_getElem? (l := hq1) (i := 20) rfl))
theorem in_q51 : q51 ∈ hQs := List.mem_append_right _ (List.mem_append_left _ (List.mem_of_getElem? (l := hq1) (i := 21) rfl))
theorem in_q52 : q52 ∈ hQs := List.mem_append_right _ (List.mem_append_left _ (List.mem_of_getElem? (l := hq1) (i := 22) rfl))
theorem in_q53 : q53 ∈ hQs := List.mem_append_right _ (List.mem_append_left _ (List.mem_of_getElem? (l := hq1) (i := 23) rfl))
theorem in_q54 : q54 ∈ hQs := List.mem_append_right _ (List.mem_append_left _ (List.mem_of_getElem? (l := hq1) (i := 24) rfl))
theorem in_q55 : q55 ∈ hQs := List.mem_append_right _ (List.mem_append_left _ (List.mem_of_getElem? (l := hq1) (i := 25) rfl))
theorem in_q56 : q56 ∈ hQs := List.mem_append_right _ (List.mem_append_left _ (List.mem_of_getElem? (l := hq1) (i := 26) rfl))
theorem in_q57 : q57 ∈ hQs := List.mem_append_right _ (List.mem_append_left _ (List.mem_of_getElem? (l := hq1) (i := 27) rfl))
theorem in_q58 : q58 ∈ hQs := List.mem_append_right _ (List.mem_append_left _ (List.mem_of_getElem? (l := hq1) (i := 28) rfl))
theorem in_q59 : q59 ∈ hQs := List.mem_append_right _ (List.mem_append_left _ (List.mem_of_getElem? (l := hq1) (i := 29) rfl))
theorem in_q60 : q60 ∈ hQs := List.mem_append_right _ (List.mem_append_right _ (List.mem_append_left _ (List.mem_of_getElem? (l := hq2) (i := 0) rfl)))
theorem in_q61 : q61 ∈ hQs := List.mem_append_right _ (List.mem_append_right _ (List.mem_append_left _ (List.mem_of_getElem? (l := hq2) (i := 1) rfl)))
theorem in_q62 : q62 ∈ hQs := List.mem_append_right _ (List.mem_append_right _ (List.mem_append_left _ (List.mem_of_getElem? (l := hq2) (i := 2) rfl)))
theorem in_q63 : q63 ∈ hQs := List.mem_append_right _ (List.mem_append_right _ (List.mem_append_left _ (List.mem_of_getElem? (l := hq2) (i := 3) rfl)))
theorem in_q64 : q64 ∈ hQs := List.mem_append_right _ (List.mem_append_right _ (List.mem_append_left _ (List.mem_of_getElem? (l := hq2) (i := 4) rfl)))
theorem in_q65 : q65 ∈ hQs := List.mem_append_right _ (List.mem_append_right _ (List.mem_append_left _ (List.mem_of_getElem? (l := hq2) (i := 5) rfl)))
theorem in_q66 : q66 ∈ hQs := List.mem_append_right _ (List.mem_append_right _ (List.mem_append_left _ (List.mem_of_getElem? (l := hq2) (i := 6) rfl)))
theorem in_q67 : q67 ∈ hQs := List.mem_append_right _ (List.mem_append_right _ (List.mem_append_left _ (List.mem_of_getElem? (l := hq2) (i := 7) rfl)))
theorem in_q68 : q68 ∈ hQs := List.mem_append_right _ (List.mem_append_right _ (List.mem_append_left _ (List.mem_of_getElem? (l := hq2) (i := 8) rfl)))
theorem in_q69 : q69 ∈ hQs := List.mem_append_right _ (List.mem_append_right _ (List.mem_append_left _ (List.mem_of_getElem? (l := hq2) (i := 9) rfl)))
theorem in_q70 : q70 ∈ hQs := List.mem_append_right _ (List.mem_append_right _ (List.mem_append_left _ (List.mem_of_getElem? (l := hq2) (i := 10) rfl)))
theorem in_q71 : q71 ∈ hQs := List.mem_append_right _ (List.mem_append_right _ (List.mem_append_left _ (List.mem_of_getElem? (l := hq2) (i := 11) rfl)))
theorem in_q72 : q72 ∈ hQs := List.mem_append_right _ (List.mem_append_right _ (List.mem_append_left _ (List.mem_of_getElem? (l := hq2) (i := 12) rfl)))
theorem in_q73 : q73 ∈ hQs := List.mem_append_right _ (List.mem_append_right _ (List.mem_append_left _ (List.mem_of_getElem? (l := hq2) (i := 13) rfl)))
theorem in_q74 : q74 ∈ hQs := List.mem_append_right _ (List.mem_append_right _ (List.mem_append_left _ (List.mem_of_getElem? (l := hq2) (i := 14) rfl)))
theorem in_q75 : q75 ∈ hQs := List.mem_append_right _ (List.mem_append_right _ (List.mem_append_left _ (List.mem_of_getElem? (l := hq2) (i := 15) rfl)))
theorem in_q76 : q76 ∈ hQs := List.mem_append_right _ (List.mem_append_right _ (List.mem_append_left _ (List.mem_of_getElem? (l := hq2) (i := 16) rfl)))
theorem in_q77 : q77 ∈ hQs := List.mem_append_right _ (List.mem_append_right _ (List.mem_append_left _ (List.mem_of_getElem? (l := hq2) (i := 17) rfl)))
theorem in_q78 : q78 ∈ hQs := List.mem_append_right _ (List.mem_append_right _ (List.mem_append_left _ (List.mem_of_getElem? (l := hq2) (i := 18) rfl)))
theorem in_q79 : q79 ∈ hQs := List.mem_append_right _ (List.mem_append_right _ (List.mem_append_left _ (List.mem_of_getElem? (l := hq2) (i := 19) rfl)))
theorem in_q80 : q80 ∈ hQs := List.mem_append_right _ (List.mem_append_right _ (List.mem_append_left _ (List.mem_of_getElem? (l := hq2) (i := 20) rfl)))
theorem in_q81 : q81 ∈ hQs := List.mem_append_right _ (List.mem_append_right _ (List.mem_append_left _ (List.mem_of_getElem? (l := hq2) (i := 21) rfl)))
theorem in_q82 : q82 ∈ hQs := List.mem_append_right _ (List.mem_append_right _ (List.mem_append_left _ (List.mem_of_getElem? (l := hq2) (i := 22) rfl)))
theorem in_q83 : q83 ∈ hQs := List.mem_append_right _ (List.mem_append_right _ (List.mem_append_left _ (List.mem_of_getElem? (l := hq2) (i := 23) rfl)))
theorem in_q84 : q84 ∈ hQs := List.mem_append_right _ (List.mem_append_right _ (List.mem_append_left _ (List.mem_of_getElem? (l := hq2) (i := 24) rfl)))
theorem in_q85 : q85 ∈ hQs := List.mem_append_right _ (List.mem_append_right _ (List.mem_append_left _ (List.mem_of_getElem? (l := hq2) (i := 25) rfl)))
theorem in_q86 : q86 ∈ hQs := List.mem_append_right _ (List.mem_append_right _ (List.mem_append_left _ (List.mem_of_getElem? (l := hq2) (i := 26) rfl)))
theorem in_q87 : q87 ∈ hQs := List.mem_append_right _ (List.mem_append_right _ (List.mem_append_left _ (List.mem_of_getElem? (l := hq2) (i := 27) rfl)))
theorem in_q88 : q88 ∈ hQs := List.mem_append_right _ (List.mem_append_right _ (List.mem_append_left _ (List.mem_of_getElem? (l := hq2) (i := 28) rfl)))
theorem in_q89 : q89 ∈ hQs := List.mem_append_right _ (List.mem_append_right _ (List.mem_append_left _ (List.mem_of_getElem? (l := hq2) (i := 29) rfl)))
theorem in_q90 : q90 ∈ hQs := List.mem_append_right _ (List.mem_append_right _ (List.mem_append_right _ (List.mem_append_left _ (List.mem_of_getElem? (l := hq3) (i := 0) rfl))))
theorem in_q91 : q91 ∈ hQs := List.mem_append_right _ (List.mem_append_right _ (List.mem_append_right _ (List.mem_append_left _ (List.mem_of_getElem? (l := hq3) (i := 1) rfl))))
theorem in_q92 : q92 ∈ hQs := List.mem_append_right _ (List.mem_append_right _ (List.mem_append_right _ (List.mem_append_left _ (List.mem_of_getElem? (l := hq3) (i := 2) rfl))))
theorem in_q93 : q93 ∈ hQs := List.mem_append_right _ (List.mem_append_right _ (List.mem_append_right _ (List.mem_append_left _ (List.mem_of_getElem? (l := hq3) (i := 3) rfl))))
theorem in_q94 : q94 ∈ hQs := List.mem_append_right _ (List.mem_append_right _ (List.mem_append_right _ (List.mem_append_left _ (List.mem_of_getElem? (l := hq3) (i := 4) rfl))))
theorem in_q95 : q95 ∈ hQs := List.mem_append_right _ (List.mem_append_right _ (List.mem_append_right _ (List.mem_append_left _ (List.mem_of_getElem? (l := hq3) (i := 5) rfl))))
theorem in_q96 : q96 ∈ hQs := List.mem_append_right _ (List.mem_append_right _ (List.mem_append_right _ (List.mem_append_left _ (List.mem_of_getElem? (l := hq3) (i := 6) rfl))))
theorem in_q97 : q97 ∈ hQs := List.mem_append_right _ (List.mem_append_right _ (List.mem_append_right _ (List.mem_append_left _ (List.mem_of_getElem? (l := hq3) (i := 7) rfl))))
theorem in_q98 : q98 ∈ hQs := List.mem_append_right _ (List.mem_append_right _ (List.mem_append_right _ (List.mem_append_left _ (List.mem_of_getElem? (l := hq3) (i := 8) rfl))))
theorem in_q99 : q99 ∈ hQs := List.mem_append_right _ (List.mem_append_right _ (List.mem_append_right _ (List.mem_append_left _ (List.mem_of_getElem? (l := hq3) (i := 9) rfl))))
theorem in_q100 : q100 ∈ hQs := List.mem_append_right _ (List.mem_append_right _ (List.mem_append_right _ (List.mem_append_left _ (List.mem_of_getElem? (l := hq3) (i := 10) rfl))))
theorem in_q101 : q101 ∈ hQs := List.mem_append_right _ (List.mem_append_right _ (List.mem_append_right _ (List.mem_append_left _ (List.mem_of_getElem? (l := hq3) (i := 11) rfl))))
theorem in_q102 : q102 ∈ hQs := List.mem_append_right _ (List.mem_append_right _ (List.mem_append_right _ (List.mem_append_left _ (List.mem_of_getElem? (l := hq3) (i := 12) rfl))))
theorem in_q103 : q103 ∈ hQs := List.mem_append_right _ (List.mem_append_right _ (List.mem_append_right _ (List.mem_append_left _ (List.mem_of_getElem? (l := hq3) (i := 13) rfl))))
theorem in_q104 : q104 ∈ hQs := List.mem_append_right _ (List.mem_append_right _ (List.mem_append_right _ (List.mem_append_left _ (List.mem_of_getElem? (l := hq3) (i := 14) rfl))))
theorem in_q105 : q105 ∈ hQs := List.mem_append_right _ (List.mem_append_right _ (List.mem_append_right _ (List.mem_append_left _ (List.mem_of_getElem? (l := hq3) (i := 15) rfl))))
theorem in_q106 : q106 ∈ hQs := List.mem_append_right _ (List.mem_append_right _ (List.mem_append_right _ (List.mem_append_left _ (List.mem_of_getElem? (l := hq3) (i := 16) rfl))))
theorem in_q107 : q107 ∈ hQs := List.mem_append_right _ (List.mem_append_right _ (List.mem_append_right _ (List.mem_append_left _ (List.mem_of_getElem? (l := hq3) (i := 17) rfl))))
theorem in_q108 : q108 ∈ hQs := List.mem_append_right _ (List.mem_append_right _ (List.mem_append_right _ (List.mem_append_left _ (List.mem_of_getElem? (l := hq3) (i := 18) rfl))))
theorem in_q109 : q109 ∈ hQs := List.mem_append_right _ (List.mem_append_right _ (List.mem_append_right _ (List.mem_append_left _ (List.mem_of_getElem? (l := hq3) (i := 19) rfl))))
theorem in_q110 : q110 ∈ hQs := List.mem_append_right _ (List.mem_append_right _ (List.mem_append_right _ (List.mem_append_left _ (List.mem_of_getElem? (l := hq3) (i := 20) rfl))))
theorem in_q111 : q111 ∈ hQs := List.mem_append_right _ (List.mem_append_right _ (List.mem_append_right _ (List.mem_append_left _ (List.mem_of_getElem? (l := hq3) (i := 21) rfl))))
theorem in_q112 : q112 ∈ hQs := List.mem_append_right _ (List.mem_append_right _ (List.mem_append_right _ (List.mem_append_left _ (List.mem_of_getElem? (l := hq3) (i := 22) rfl))))
theorem in_q113 : q113 ∈ hQs := List.mem_append_right _ (List.mem_append_right _ (List.mem_append_right _ (List.mem_append_left _ (List.mem_of_getElem? (l := hq3) (i := 23) rfl))))
theorem in_q114 : q114 ∈ hQs := List.mem_append_right _ (List.mem_append_right _ (List.mem_append_right _ (List.mem_append_left _ (List.mem_of_getElem? (l := hq3) (i := 24) rfl))))
theorem in_q115 : q115 ∈ hQs := List.mem_append_right _ (List.mem_append_right _ (List.mem_append_right _ (List.mem_append_left _ (List.mem_of_getElem? (l := hq3) (i := 25) rfl))))
theorem in_q116 : q116 ∈ hQs := List.mem_append_right _ (List.mem_append_right _ (List.mem_append_right _ (List.mem_append_left _ (List.mem_of_getElem? (l := hq3) (i := 26) rfl))))
theorem in_q117 : q117 ∈ hQs := List.mem_append_right _ (List.mem_append_right _ (List.mem_append_right _ (List.mem_append_left _ (List.mem_of_getElem? (l := hq3) (i := 27) rfl))))
theorem in_q118 : q118 ∈ hQs := List.mem_append_right _ (List.mem_append_right _ (List.mem_append_right _ (List.mem_append_left _ (List.mem_of_getElem? (l := hq3) (i := 28) rfl))))
theorem in_q119 : q119 ∈ hQs := List.mem_append_right _ (List.mem_append_right _ (List.mem_append_right _ (List.mem_append_left _ (List.mem_of_getElem? (l := hq3) (i := 29) rfl))))
theorem in_q120 : q120 ∈ hQs := List.mem_append_right _ (List.mem_append_right _ (List.mem_append_right _ (List.mem_append_right _ (List.mem_append_left _ (List.mem_of_getElem? (l := hq4) (i := 0) rfl)))))
theorem in_q121 : q121 ∈ hQs := List.mem_append_right _ (List.mem_append_right _ (List.mem_append_right _ (List.mem_append_right _ (List.mem_append_left _ (List.mem_of_getElem? (l := hq4) (i := 1) rfl)))))
theorem in_q122 : q122 ∈ hQs := List.mem_append_right _ (List.mem_append_right _ (List.mem_append_right _ (List.mem_append_right _ (List.mem_append_left _ (List.mem_of_getElem? (l := hq4) (i := 2) rfl)))))
theorem in_q123 : q123 ∈ hQs := List.mem_append_right _ (List.mem_append_right _ (List.mem_append_right _ (List.mem_append_right _ (List.mem_append_left _ (List.mem_of_getElem? (l := hq4) (i := 3) rfl)))))
theorem in_q124 : q124 ∈ hQs := List.mem_append_right _ (List.mem_append_right _ (List.mem_append_right _ (List.mem_append_right _ (List.mem_append_left _ (List.mem_of_getElem? (l := hq4) (i := 4) rfl)))))
theorem in_q125 : q125 ∈ hQs := List.mem_append_right _ (List.mem_append_right _ (List.mem_append_right _ (List.mem_append_right _ (List.mem_append_left _ (List.mem_of_getElem? (l := hq4) (i := 5) rfl)))))
theorem in_q126 : q126 ∈ hQs := List.mem_append_right _ (List.mem_append_right _ (List.mem_append_right _ (List.mem_append_right _ (List.mem_append_left _ (List.mem_of_getElem? (l := hq4) (i := 6) rfl)))))
theorem in_q127 : q127 ∈ hQs := List.mem_append_right _ (List.mem_append_right _ (List.mem_append_right _ (List.mem_append_right _ (List.mem_append_left _ (List.mem_of_getElem? (l := hq4) (i := 7) rfl)))))
theorem in_q128 : q128 ∈ hQs := List.mem_append_right _ (List.mem_append_right _ (List.mem_append_right _ (List.mem_append_right _ (List.mem_append_left _ (List.mem_of_getElem? (l := hq4) (i := 8) rfl)))))
theorem in_q129 : q129 ∈ hQs := List.mem_append_right _ (List.mem_append_right _ (List.mem_append_right _ (List.mem_append_right _ (List.mem_append_left _ (List.mem_of_getElem? (l := hq4) (i := 9) rfl)))))
theorem in_q130 : q130 ∈ hQs := List.mem_append_right _ (List.mem_append_right _ (List.mem_append_right _ (List.mem_append_right _ (List.mem_append_left _ (List.mem_of_getElem? (l := hq4) (i := 10) rfl)))))
theorem in_q131 : q131 ∈ hQs := List.mem_append_right _ (List.mem_append_right _ (List.mem_append_right _ (List.mem_append_right _ (List.mem_append_left _ (List.mem_of_getElem? (l := hq4) (i := 11) rfl)))))
theorem in_q132 : q132 ∈ hQs := List.mem_append_right _ (List.mem_append_right _ (List.mem_append_right _ (List.mem_append_right _ (List.mem_append_left _ (List.mem_of_getElem? (l := hq4) (i := 12) rfl)))))
theorem in_q133 : q133 ∈ hQs := List.mem_append_right _ (List.mem_append_right _ (List.mem_append_right _ (List.mem_append_right _ (List.mem_append_left _ (List.mem_of_getElem? (l := hq4) (i := 13) rfl)))))
theorem in_q134 : q134 ∈ hQs := List.mem_append_right _ (List.mem_append_right _ (List.mem_append_right _ (List.mem_append_right _ (List.mem_append_left _ (List.mem_of_getElem? (l := hq4) (i := 14) rfl)))))
theorem in_q135 : q135 ∈ hQs := List.mem_append_right _ (List.mem_append_right _ (List.mem_append_right _ (List.mem_append_right _ (List.mem_append_left _ (List.mem_of_getElem? (l := hq4) (i := 15) rfl)))))
theorem in_q136 : q136 ∈ hQs := List.mem_append_right _ (List.mem_append_right _ (List.mem_append_right _ (List.mem_append_right _ (List.mem_append_left _ (List.mem_of_getElem? (l := hq4) (i := 16) rfl)))))
theorem in_q137 : q137 ∈ hQs := List.mem_append_right _ (List.mem_append_right _ (List.mem_append_right _ (List.mem_append_right _ (List.mem_append_left _ (List.mem_of_getElem? (l := hq4) (i := 17) rfl)))))
theorem in_q138 : q138 ∈ hQs := List.mem_append_right _ (List.mem_append_right _ (List.mem_append_right _ (List.mem_append_right _ (List.mem_append_left _ (List.mem_of_getElem? (l := hq4) (i := 18) rfl)))))
theorem in_q139 : q139 ∈ hQs := List.mem_append_right _ (List.mem_append_right _ (List.mem_append_right _ (List.mem_append_right _ (List.mem_append_left _ (List.mem_of_getElem? (l := hq4) (i := 19) rfl)))))
theorem in_q140 : q140 ∈ hQs := List.mem_append_right _ (List.mem_append_right _ (List.mem_append_right _ (List.mem_append_right _ (List.mem_append_left _ (List.mem_of_getElem? (l := hq4) (i := 20) rfl)))))
theorem in_q141 : q141 ∈ hQs := List.mem_append_right _ (List.mem_append_right _ (List.mem_append_right _ (List.mem_append_right _ (List.mem_append_left _ (List.mem_of_getElem? (l := hq4) (i := 21) rfl)))))
theorem in_q142 : q142 ∈ hQs := List.mem_append_right _ (List.mem_append_right _ (List.mem_append_right _ (List.mem_append_right _ (List.mem_append_left _ (List.mem_of_getElem? (l := hq4) (i := 22) rfl)))))
theorem in_q143 : q143 ∈ hQs := List.mem_append_right _ (List.mem_append_right _ (List.mem_append_right _ (List.mem_append_right _ (List.mem_append_left _ (List.mem_of_getElem? (l := hq4) (i := 23) rfl)))))
theorem in_q144 : q144 ∈ hQs := List.mem_append_right _ (List.mem_append_right _ (List.mem_append_right _ (List.mem_append_right _ (List.mem_append_left _ (List.mem_of_getElem? (l := hq4) (i := 24) rfl)))))
theorem in_q145 : q145 ∈ hQs := List.mem_append_right _ (List.mem_append_right _ (List.mem_append_right _ (List.mem_append_right _ (List.mem_append_left _ (List.mem_of_getElem? (l := hq4) (i := 25) rfl)))))
theorem in_q146 : q146 ∈ hQs := List.mem_append_right _ (List.mem_append_right _ (List.mem_append_right _ (List.mem_append_right _ (List.mem_append_left _ (List.mem_of_getElem? (l := hq4) (i := 26) rfl)))))
theorem in_q147 : q147 ∈ hQs := List.mem_append_right _ (List.mem_append_right _ (List.mem_append_right _ (List.mem_append_right _ (List.mem_append_left _ (List.mem_of_getElem? (l := hq4) (i := 27) rfl)))))
theorem in_q148 : q148 ∈ hQs := List.mem_append_right _ (List.mem_append_right _ (List.mem_append_right _ (List.mem_append_right _ (List.mem_append_left _ (List.mem_of_getElem? (l := hq4) (i := 28) rfl)))))
theorem in_q149 : q149 ∈ hQs := List.mem_append_right _ (List.mem_append_right _ (List.mem_append_right _ (List.mem_append_right _ (List.mem_append_left _ (List.mem_of_getElem? (l := hq4) (i := 29) rfl)))))
theorem in_q150 : q150 ∈ hQs := List.mem_append_right _ (List.mem_append_right _ (List.mem_append_right _ (List.mem_append_right _ (List.mem_append_right _ (List.mem_append_left _ (List.mem_of_getElem? (l := hq5) (i := 0) rfl))))))
theorem in_q151 : q151 ∈ hQs := List.mem_append_right _ (List.mem_append_right _ (List.mem_append_right _ (List.mem_append_right _ (List.mem_append_right _ (List.mem_append_left _ (List.mem_of_getElem? (l := hq5) (i := 1) rfl))))))
theorem in_q152 : q152 ∈ hQs := List.mem_append_right _ (List.mem_append_right _ (List.mem_append_right _ (List.mem_append_right _ (List.mem_append_right _ (List.mem_append_left _ (List.mem_of_getElem? (l := hq5) (i := 2) rfl))))))
theorem in_q153 : q153 ∈ hQs := List.mem_append_right _ (List.mem_append_right _ (List.mem_append_right _ (List.mem_append_right _ (List.mem_append_right _ (List.mem_append_left _ (List.mem_of_getElem? (l := hq5) (i := 3) rfl))))))
theorem in_q154 : q154 ∈ hQs := List.mem_append_right _ (List.mem_append_right _ (List.mem_append_right _ (List.mem_append_right _ (List.mem_append_right _ (List.mem_append_left _ (List.mem_of_getElem? (l := hq5) (i := 4) rfl))))))
theorem in_q155 : q155 ∈ hQs := List.mem_append_right _ (List.mem_append_right _ (List.mem_append_right _ (List.mem_append_right _ (List.mem_append_right _ (List.mem_append_left _ (List.mem_of_getElem? (l := hq5) (i := 5) rfl))))))
theorem in_q156 : q156 ∈ hQs := List.mem_append_right _ (List.mem_append_right _ (List.mem_append_right _ (List.mem_append_right _ (List.mem_append_right _ (List.mem_append_left _ (List.mem_of_getElem? (l := hq5) (i := 6) rfl))))))
theorem in_q157 : q157 ∈ hQs := List.mem_append_right _ (List.mem_append_right _ (List.mem_append_right _ (List.mem_append_right _ (List.mem_append_right _ (List.mem_append_left _ (List.mem_of_getElem? (l := hq5) (i := 7) rfl))))))
theorem in_q158 : q158 ∈ hQs := List.mem_append_right _ (List.mem_append_right _ (List.mem_append_right _ (List.mem_append_right _ (List.mem_append_right _ (List.mem_append_left _ (List.mem_of_getElem? (l := hq5) (i := 8) rfl))))))
theorem in_q159 : q159 ∈ hQs := List.mem_append_right _ (List.mem_append_right _ (List.mem_append_right _ (List.mem_append_right _ (List.mem_append_right _ (List.mem_append_left _ (List.mem_of_getElem? (l := hq5) (i := 9) rfl))))))
theorem in_q160 : q160 ∈ hQs := List.mem_append_right _ (List.mem_append_right _ (List.mem_append_right _ (List.mem_append_right _ (List.mem_append_right _ (List.mem_append_left _ (List.mem_of_getElem? (l := hq5) (i := 10) rfl))))))
theorem in_q161 : q161 ∈ hQs := List.mem_append_right _ (List.mem_append_right _ (List.mem_append_right _ (List.mem_append_right _ (List.mem_append_right _ (List.mem_append_left _ (List.mem_of_getElem? (l := hq5) (i := 11) rfl))))))
theorem in_q162 : q162 ∈ hQs := List.mem_append_right _ (List.mem_append_right _ (List.mem_append_right _ (List.mem_append_right _ (List.mem_append_right _ (List.mem_append_left _ (List.mem_of_getElem? (l := hq5) (i := 12) rfl))))))
theorem in_q163 : q163 ∈ hQs := List.mem_append_right _ (List.mem_append_right _ (List.mem_append_right _ (List.mem_append_right _ (List.mem_append_right _ (List.mem_append_left _ (List.mem_of_getElem? (l := hq5) (i := 13) rfl))))))
theorem in_q164 : q164 ∈ hQs := List.mem_append_right _ (List.mem_append_right _ (List.mem_append_right _ (List.mem_append_right _ (List.mem_append_right _ (List.mem_append_left _ (List.mem_of_getElem? (l := hq5) (i := 14) rfl))))))
theorem in_q165 : q165 ∈ hQs := List.mem_append_right _ (List.mem_append_right _ (List.mem_append_right _ (List.mem_append_right _ (List.mem_append_right _ (List.mem_append_left _ (List.mem_of_getElem? (l := hq5) (i := 15) rfl))))))
theorem in_q166 : q166 ∈ hQs := List.mem_append_right _ (List.mem_append_right _ (List.mem_append_right _ (List.mem_append_right _ (List.mem_append_right _ (List.mem_append_left _ (List.mem_of_getElem? (l := hq5) (i := 16) rfl))))))
theorem in_q167 : q167 ∈ hQs := List.mem_append_right _ (List.mem_append_right _ (List.mem_append_right _ (List.mem_append_right _ (List.mem_append_right _ (List.mem_append_left _ (List.mem_of_getElem? (l := hq5) (i := 17) rfl))))))
theorem in_q168 : q168 ∈ hQs := List.mem_append_right _ (List.mem_append_right _ (List.mem_append_right _ (List.mem_append_right _ (List.mem_append_right _ (List.mem_append_left _ (List.mem_of_getElem? (l := hq5) (i := 18) rfl))))))
theorem in_q169 : q169 ∈ hQs := List.mem_append_right _ (List.mem_append_right _ (List.mem_append_right _ (List.mem_append_right _ (List.mem_append_right _ (List.mem_append_left _ (List.mem_of_getElem? (l := hq5) (i := 19) rfl))))))
theorem in_q170 : q170 ∈ hQs := List.mem_append_right _ (List.mem_append_right _ (List.mem_append_right _ (List.mem_append_right _ (List.mem_append_right _ (List.mem_append_left _ (List.mem_of_getElem? (l := hq5) (i := 20) rfl))))))
theorem in_q171 : q171 ∈ hQs := List.mem_append_right _ (List.mem_append_right _ (List.mem_append_right _ (List.mem_append_right _ (List.mem_append_right _ (List.mem_append_left _ (List.mem_of_getElem? (l := hq5) (i := 21) rfl))))))
theorem in_q172 : q172 ∈ hQs := List.mem_append_right _ (List.mem_append_right _ (List.mem_append_right _ (List.mem_append_right _ (List.mem_append_right _ (List.mem_append_left _ (List.mem_of_getElem? (l := hq5) (i := 22) rfl))))))
theorem in_q173 : q173 ∈ hQs := List.mem_append_right _ (List.mem_append_right _ (List.mem_append_right _ (List.mem_append_right _ (List.mem_append_right _ (List.mem_append_left _ (List.mem_of_getElem? (l := hq5) (i := 23) rfl))))))
theorem in_q174 : q174 ∈ hQs := List.mem_append_right _ (List.mem_append_right _ (List.mem_append_right _ (List.mem_append_right _ (List.mem_append_right _ (List.mem_append_left _ (List.mem_of_getElem? (l := hq5) (i := 24) rfl))))))
theorem in_q175 : q175 ∈ hQs := List.mem_append_right _ (List.mem_append_right _ (List.mem_append_right _ (List.mem_append_right _ (List.mem_append_right _ (List.mem_append_left _ (List.mem_of_getElem? (l := hq5) (i := 25) rfl))))))
theorem in_q176 : q176 ∈ hQs := List.mem_append_right _ (List.mem_append_right _ (List.mem_append_right _ (List.mem_append_right _ (List.mem_append_right _ (List.mem_append_left _ (List.mem_of_getElem? (l := hq5) (i := 26) rfl))))))
theorem in_q177 : q177 ∈ hQs := List.mem_append_right _ (List.mem_append_right _ (List.mem_append_right _ (List.mem_append_right _ (List.mem_append_right _ (List.mem_append_left _ (List.mem_of_getElem? (l := hq5) (i := 27) rfl))))))
theorem in_q178 : q178 ∈ hQs := List.mem_append_right _ (List.mem_append_right _ (List.mem_append_right _ (List.mem_append_right _ (List.mem_append_right _ (List.mem_append_left _ (List.mem_of_getElem? (l := hq5) (i := 28) rfl))))))
theorem in_q179 : q179 ∈ hQs := List.mem_append_right _ (List.mem_append_right _ (List.mem_append_right _ (List.mem_append_right _ (List.mem_append_right _ (List.mem_append_left _ (List.mem_of_getElem? (l := hq5) (i := 29) rfl))))))
theorem in_q180 : q180 ∈ hQs := List.mem_append_right _ (List.mem_append_right _ (List.mem_append_right _ (List.mem_append_right _ (List.mem_append_right _ (List.mem_append_right _ (List.mem_append_left _ (List.mem_of_getElem? (l := hq6) (i := 0) rfl)))))))
theorem in_q181 : q181 ∈ hQs := List.mem_append_right _ (List.mem_append_right _ (List.mem_append_right _ (List.mem_append_right _ (List.mem_append_right _ (List.mem_append_right _ (List.mem_append_left _ (List.mem_of_getElem? (l := hq6) (i := 1) rfl)))))))
theorem in_q182 : q182 ∈ hQs := List.mem_append_right _ (List.mem_append_right _ (List.mem_append_right _ (List.mem_append_right _ (List.mem_append_right _ (List.mem_append_right _ (List.mem_append_left _ (List.mem_of_getElem? (l := hq6) (i := 2) rfl)))))))
theorem in_q183 : q183 ∈ hQs := List.mem_append_right _ (List.mem_append_right _ (List.mem_append_right _ (List.mem_append_right _ (List.mem_append_right _ (List.mem_append_right _ (List.mem_append_left _ (List.mem_of_getElem? (l := hq6) (i := 3) rfl)))))))
theorem in_q184 : q184 ∈ hQs := List.mem_append_right _ (List.mem_append_right _ (List.mem_append_right _ (List.mem_append_right _ (List.mem_append_right _ (List.mem_append_right _ (List.mem_append_left _ (List.mem_of_getElem? (l := hq6) (i := 4) rfl)))))))
theorem in_q185 : q185 ∈ hQs := List.mem_append_right _ (List.mem_append_right _ (List.mem_append_right _ (List.mem_append_right _ (List.mem_append_right _ (List.mem_append_right _ (List.mem_append_left _ (List.mem_of_getElem? (l := hq6) (i := 5) rfl)))))))
theorem in_q186 : q186 ∈ hQs := List.mem_append_right _ (List.mem_append_right _ (List.mem_append_right _ (List.mem_append_right _ (List.mem_append_right _ (List.mem_append_right _ (List.mem_append_left _ (List.mem_of_getElem? (l := hq6) (i := 6) rfl)))))))
theorem in_q187 : q187 ∈ hQs := List.mem_append_right _ (List.mem_append_right _ (List.mem_append_right _ (List.mem_append_right _ (List.mem_append_right _ (List.mem_append_right _ (List.mem_append_left _ (List.mem_of_getElem? (l := hq6) (i := 7) rfl)))))))
theorem in_q188 : q188 ∈ hQs := List.mem_append_right _ (List.mem_append_right _ (List.mem_append_right _ (List.mem_append_right _ (List.mem_append_right _ (List.mem_append_right _ (List.mem_append_left _ (List.mem_of_getElem? (l := hq6) (i := 8) rfl)))))))
theorem in_q189 : q189 ∈ hQs := List.mem_append_right _ (List.mem_append_right _ (List.mem_append_right _ (List.mem_append_right _ (List.mem_append_right _ (List.mem_append_right _ (List.mem_append_left _ (List.mem_of_getElem? (l := hq6) (i := 9) rfl)))))))
theorem in_q190 : q190 ∈ hQs := List.mem_append_right _ (List.mem_append_right _ (List.mem_append_right _ (List.mem_append_right _ (List.mem_append_right _ (List.mem_append_right _ (List.mem_append_left _ (List.mem_of_getElem? (l := hq6) (i := 10) rfl)))))))
theorem in_q191 : q191 ∈ hQs := List.mem_append_right _ (List.mem_append_right _ (List.mem_append_right _ (List.mem_append_right _ (List.mem_append_right _ (List.mem_append_right _ (List.mem_append_left _ (List.mem_of_getElem? (l := hq6) (i := 11) rfl)))))))
theorem in_q192 : q192 ∈ hQs := List.mem_append_right _ (List.mem_append_right _ (List.mem_append_right _ (List.mem_append_right _ (List.mem_append_right _ (List.mem_append_right _ (List.mem_append_left _ (List.mem_of_getElem? (l := hq6) (i := 12) rfl)))))))
theorem in_q193 : q193 ∈ hQs := List.mem_append_right _ (List.mem_append_right _ (List.mem_append_right _ (List.mem_append_right _ (List.mem_append_right _ (List.mem_append_right _ (List.mem_append_left _ (List.mem_of_getElem? (l := hq6) (i := 13) rfl)))))))
theorem in_q194 : q194 ∈ hQs := List.mem_append_right _ (List.mem_append_right _ (List.mem_append_right _ (List.mem_append_right _ (List.mem_append_right _ (List.mem_append_right _ (List.mem_append_left _ (List.mem_of_getElem? (l := hq6) (i := 14) rfl)))))))
theorem in_q195 : q195 ∈ hQs := List.mem_append_right _ (List.mem_append_right _ (List.mem_append_right _ (List.mem_append_right _ (List.mem_append_right _ (List.mem_append_right _ (List.mem_append_left _ (List.mem_of_getElem? (l := hq6) (i := 15) rfl)))))))
theorem in_q196 : q196 ∈ hQs := List.mem_append_right _ (List.mem_append_right _ (List.mem_append_right _ (List.mem_append_right _ (List.mem_append_right _ (List.mem_append_right _ (List.mem_append_left _ (List.mem_of_getElem? (l := hq6) (i := 16) rfl)))))))
theorem in_q197 : q197 ∈ hQs := List.mem_append_right _ (List.mem_append_right _ (List.mem_append_right _ (List.mem_append_right _ (List.mem_append_right _ (List.mem_append_right _ (List.mem_append_left _ (List.mem_of_getElem? (l := hq6) (i := 17) rfl)))))))
theorem in_q198 : q198 ∈ hQs := List.mem_append_right _ (List.mem_append_right _ (List.mem_append_right _ (List.mem_append_right _ (List.mem_append_right _ (List.mem_append_right _ (List.mem_append_left _ (List.mem_of_getElem? (l := hq6) (i := 18) rfl)))))))
theorem in_q199 : q199 ∈ hQs := List.mem_append_right _ (List.mem_append_right _ (List.mem_append_right _ (List.mem_append_right _ (List.mem_append_right _ (List.mem_append_right _ (List.mem_append_left _ (List.mem_of_getElem? (l := hq6) (i := 19) rfl)))))))
theorem in_q200 : q200 ∈ hQs := List.mem_append_right _ (List.mem_append_right _ (List.mem_append_right _ (List.mem_append_right _ (List.mem_append_right _ (List.mem_append_right _ (List.mem_append_left _ (List.mem_of_getElem? (l := hq6) (i := 20) rfl)))))))
theorem in_q201 : q201 ∈ hQs := List.mem_append_right _ (List.mem_append_right _ (List.mem_append_right _ (List.mem_append_right _ (List.mem_append_right _ (List.mem_append_right _ (List.mem_append_left _ (List.mem_of_getElem? (l := hq6) (i := 21) rfl)))))))
theorem in_q202 : q202 ∈ hQs := List.mem_append_right _ (List.mem_append_right _ (List.mem_append_right _ (List.mem_append_right _ (List.mem_append_right _ (List.mem_append_right _ (List.mem_append_left _ (List.mem_of_getElem? (l := hq6) (i := 22) rfl)))))))
theorem in_q203 : q203 ∈ hQs := List.mem_append_right _ (List.mem_append_right _ (List.mem_append_right _ (List.mem_append_right _ (List.mem_append_right _ (List.mem_append_right _ (List.mem_append_left _ (List.mem_of_getElem? (l := hq6) (i := 23) rfl)))))))
theorem in_q204 : q204 ∈ hQs := List.mem_append_right _ (List.mem_append_right _ (List.mem_append_right _ (List.mem_append_right _ (List.mem_append_right _ (List.mem_append_right _ (List.mem_append_left _ (List.mem_of_getElem? (l := hq6) (i := 24) rfl)))))))
theorem in_q205 : q205 ∈ hQs := List.mem_append_right _ (List.mem_append_right _ (List.mem_append_right _ (List.mem_append_right _ (List.mem_append_right _ (List.mem_append_right _ (List.mem_append_left _ (List.mem_of_getElem? (l := hq6) (i := 25) rfl)))))))
theorem in_q206 : q206 ∈ hQs := List.mem_append_right _ (List.mem_append_right _ (List.mem_append_right _ (List.mem_append_right _ (List.mem_append_right _ (List.mem_append_right _ (List.mem_append_left _ (List.mem_of_getElem? (l := hq6) (i := 26) rfl)))))))
theorem in_q207 : q207 ∈ hQs := List.mem_append_right _ (List.mem_append_right _ (List.mem_append_right _ (List.mem_append_right _ (List.mem_append_right _ (List.mem_append_right _ (List.mem_append_left _ (List.mem_of_getElem? (l := hq6) (i := 27) rfl)))))))
theorem in_q208 : q208 ∈ hQs := List.mem_append_right _ (List.mem_append_right _ (List.mem_append_right _ (List.mem_append_right _ (List.mem_append_right _ (List.mem_append_right _ (List.mem_append_left _ (List.mem_of_getElem? (l := hq6) (i := 28) rfl)))))))
theorem in_q209 : q209 ∈ hQs := List.mem_append_right _ (List.mem_append_right _ (List.mem_append_right _ (List.mem_append_right _ (List.mem_append_right _ (List.mem_append_right _ (List.mem_append_left _ (List.mem_of_getElem? (l := hq6) (i := 29) rfl)))))))
theorem in_q210 : q210 ∈ hQs := List.mem_append_right _ (List.mem_append_right _ (List.mem_append_right _ (List.mem_append_right _ (List.mem_append_right _ (List.mem_append_right _ (List.mem_append_right _ (List.mem_append_left _ (List.mem_of_getElem? (l := hq7) (i := 0) rfl))))))))
theorem in_q211 : q211 ∈ hQs := List.mem_append_right _ (List.mem_append_right _ (List.mem_append_right _ (List.mem_append_right _ (List.mem_append_right _ (List.mem_append_right _ (List.mem_append_right _ (List.mem_append_left _ (List.mem_of_getElem? (l := hq7) (i := 1) rfl))))))))
theorem in_q212 : q212 ∈ hQs := List.mem_append_right _ (List.mem_append_right _ (List.mem_append_right _ (List.mem_append_right _ (List.mem_append_right _ (List.mem_append_right _ (List.mem_append_right _ (List.mem_append_left _ (List.mem_of_getElem? (l := hq7) (i := 2) rfl))))))))
theorem in_q213 : q213 ∈ hQs := List.mem_append_right _ (List.mem_append_right _ (List.mem_append_right _ (List.mem_append_right _ (List.mem_append_right _ (List.mem_append_right _ (List.mem_append_right _ (List.mem_append_left _ (List.mem_of_getElem? (l := hq7) (i := 3) rfl))))))))
theorem in_q214 : q214 ∈ hQs := List.mem_append_right _ (List.mem_append_right _ (List.mem_append_right _ (List.mem_append_right _ (List.mem_append_right _ (List.mem_append_right _ (List.mem_append_right _ (List.mem_append_left _ (List.mem_of_getElem? (l := hq7) (i := 4) rfl))))))))
theorem in_q215 : q215 ∈ hQs := List.mem_append_right _ (List.mem_append_right _ (List.mem_append_right _ (List.mem_append_right _ (List.mem_append_right _ (List.mem_append_right _ (List.mem_append_right _ (List.mem_append_left _ (List.mem_of_getElem? (l := hq7) (i := 5) rfl))))))))
theorem in_q216 : q216 ∈ hQs := List.mem_append_right _ (List.mem_append_right _ (List.mem_append_right _ (List.mem_append_right _ (List.mem_append_right _ (List.mem_append_right _ (List.mem_append_right _ (List.mem_append_left _ (List.mem_of_getElem? (l := hq7) (i := 6) rfl))))))))
theorem in_q217 : q217 ∈ hQs := List.mem_append_right _ (List.mem_append_right _ (List.mem_append_right _ (List.mem_append_right _ (List.mem_append_right _ (List.mem_append_right _ (List.mem_append_right _ (List.mem_append_left _ (List.mem_of_getElem? (l := hq7) (i := 7) rfl))))))))
theorem in_q218 : q218 ∈ hQs := List.mem_append_right _ (List.mem_append_right _ (List.mem_append_right _ (List.mem_append_right _ (List.mem_append_right _ (List.mem_append_right _ (List.mem_append_right _ (List.mem_append_left _ (List.mem_of_getElem? (l := hq7) (i := 8) rfl))))))))
theorem in_q219 : q219 ∈ hQs := List.mem_append_right _ (List.mem_append_right _ (List.mem_append_right _ (List.mem_append_right _ (List.mem_append_right _ (List.mem_append_right _ (List.mem_append_right _ (List.mem_append_left _ (List.mem_of_getElem? (l := hq7) (i := 9) rfl))))))))
theorem in_q220 : q220 ∈ hQs := List.mem_append_right _ (List.mem_append_right _ (List.mem_append_right _ (List.mem_append_right _ (List.mem_append_right _ (List.mem_append_right _ (List.mem_append_right _ (List.mem_append_left _ (List.mem_of_getElem? (l := hq7) (i := 10) rfl))))))))
theorem in_q221 : q221 ∈ hQs := List.mem_append_right _ (List.mem_append_right _ (List.mem_append_right _ (List.mem_append_right _ (List.mem_append_right _ (List.mem_append_right _ (List.mem_append_right _ (List.mem_append_left _ (List.mem_of_getElem? (l := hq7) (i := 11) rfl))))))))
theorem in_q222 : q222 ∈ hQs := List.mem_append_right _ (List.mem_append_right _ (List.mem_append_right _ (List.mem_append_right _ (List.mem_append_right _ (List.mem_append_right _ (List.mem_append_right _ (List.mem_append_left _ (List.mem_of_getElem? (l := hq7) (i := 12) rfl))))))))
theorem in_q223 : q223 ∈ hQs := List.mem_append_right _ (List.mem_append_right _ (List.mem_append_right _ (List.mem_append_right _ (List.mem_append_right _ (List.mem_append_right _ (List.mem_append_right _ (List.mem_append_left _ (List.mem_of_getElem? (l := hq7) (i := 13) rfl))))))))
theorem in_q224 : q224 ∈ hQs := List.mem_append_right _ (List.mem_append_right _ (List.mem_append_right _ (List.mem_append_right _ (List.mem_append_right _ (List.mem_append_right _ (List.mem_append_right _ (List.mem_append_left _ (List.mem_of_getElem? (l := hq7) (i := 14) rfl))))))))
theorem in_q225 : q225 ∈ hQs := List.mem_append_right _ (List.mem_append_right _ (List.mem_append_right _ (List.mem_append_right _ (List.mem_append_right _ (List.mem_append_right _ (List.mem_append_right _ (List.mem_append_left _ (List.mem_of_getElem? (l := hq7) (i := 15) rfl))))))))
theorem in_q226 : q226 ∈ hQs := List.mem_append_right _ (List.mem_append_right _ (List.mem_append_right _ (List.mem_append_right _ (List.mem_append_right _ (List.mem_append_right _ (List.mem_append_right _ (List.mem_append_left _ (List.mem_of_getElem? (l := hq7) (i := 16) rfl))))))))
theorem in_q227 : q227 ∈ hQs := List.mem_append_right _ (List.mem_append_right _ (List.mem_append_right _ (List.mem_append_right _ (List.mem_append_right _ (List.mem_append_right _ (List.mem_append_right _ (List.mem_append_left _ (List.mem_of_getElem? (l := hq7) (i := 17) rfl))))))))
theorem in_q228 : q228 ∈ hQs := List.mem_append_right _ (List.mem_append_right _ (List.mem_append_right _ (List.mem_append_right _ (List.mem_append_right _ (List.mem_append_right _ (List.mem_append_right _ (List.mem_append_left _ (List.mem_of_getElem? (l := hq7) (i := 18) rfl))))))))
theorem in_q229 : q229 ∈ hQs := List.mem_append_right _ (List.mem_append_right _ (List.mem_append_right _ (List.mem_append_right _ (List.mem_append_right _ (List.mem_append_right _ (List.mem_append_right _ (List.mem_append_left _ (List.mem_of_getElem? (l := hq7) (i := 19) rfl))))))))
theorem in_q230 : q230 ∈ hQs := List.mem_append_right _ (List.mem_append_right _ (List.mem_append_right _ (List.mem_append_right _ (List.mem_append_right _ (List.mem_append_right _ (List.mem_append_right _ (List.mem_append_left _ (List.mem_of_getElem? (l := hq7) (i := 20) rfl))))))))
theorem in_q231 : q231 ∈ hQs := List.mem_append_right _ (List.mem_append_right _ (List.mem_append_right _ (List.mem_append_right _ (List.mem_append_right _ (List.mem_append_right _ (List.mem_append_right _ (List.mem_append_left _ (List.mem_of_getElem? (l := hq7) (i := 21) rfl))))))))
theorem in_q232 : q232 ∈ hQs := List.mem_append_right _ (List.mem_append_right _ (List.mem_append_right _ (List.mem_append_right _ (List.mem_append_right _ (List.mem_append_right _ (List.mem_append_right _ (List.mem_append_left _ (List.mem_of_getElem? (l := hq7) (i := 22) rfl))))))))
theorem in_q233 : q233 ∈ hQs := List.mem_append_right _ (List.mem_append_right _ (List.mem_append_right _ (List.mem_append_right _ (List.mem_append_right _ (List.mem_append_right _ (List.mem_append_right _ (List.mem_append_left _ (List.mem_of_getElem? (l := hq7) (i := 23) rfl))))))))
theorem in_q234 : q234 ∈ hQs := List.mem_append_right _ (List.mem_append_right _ (List.mem_append_right _ (List.mem_append_right _ (List.mem_append_right _ (List.mem_append_right _ (List.mem_append_right _ (List.mem_append_left _ (List.mem_of_getElem? (l := hq7) (i := 24) rfl))))))))
theorem in_q235 : q235 ∈ hQs := List.mem_append_right _ (List.mem_append_right _ (List.mem_append_right _ (List.mem_append_right _ (List.mem_append_right _ (List.mem_append_right _ (List.mem_append_right _ (List.mem_append_left _ (List.mem_of_getElem? (l := hq7) (i := 25) rfl))))))))
theorem in_q236 : q236 ∈ hQs := List.mem_append_right _ (List.mem_append_right _ (List.mem_append_right _ (List.mem_append_right _ (List.mem_append_right _ (List.mem_append_right _ (List.mem_append_right _ (List.mem_append_left _ (List.mem_of_getElem? (l := hq7) (i := 26) rfl))))))))
theorem in_q237 : q237 ∈ hQs := List.mem_append_right _ (List.mem_append_right _ (List.mem_append_right _ (List.mem_append_right _ (List.mem_append_right _ (List.mem_append_right _ (List.mem_append_right _ (List.mem_append_left _ (List.mem_of_getElem? (l := hq7) (i := 27) rfl))))))))
theorem in_q238 : q238 ∈ hQs := List.mem_append_right _ (List.mem_append_right _ (List.mem_append_right _ (List.mem_append_right _ (List.mem_append_right _ (List.mem_append_right _ (List.mem_append_right _ (List.mem_append_left _ (List.mem_of_getElem? (l := hq7) (i := 28) rfl))))))))
theorem in_q239 : q239 ∈ hQs := List.mem_append_right _ (List.mem_append_right _ (List.mem_append_right _ (List.mem_append_right _ (List.mem_append_right _ (List.mem_append_right _ (List.mem_append_right _ (List.mem_append_left _ (List.mem_of_getElem? (l := hq7) (i := 29) rfl))))))))
theorem in_q240 : q240 ∈ hQs := List.mem_append_right _ (List.mem_append_right _ (List.mem_append_right _ (List.mem_append_right _ (List.mem_append_right _ (List.mem_append_right _ (List.mem_append_right _ (List.mem_append_right _ (List.mem_append_left _ (List.mem_of_getElem? (l := hq8) (i := 0) rfl)))))))))
theorem in_q241 : q241 ∈ hQs := List.mem_append_right _ (List.mem_append_right _ (List.mem_append_right _ (List.mem_append_right _ (List.mem_append_right _ (List.mem_append_right _ (List.mem_append_right _ (List.mem_append_right _ (List.mem_append_left _ (List.mem_of_getElem? (l := hq8) (i := 1) rfl)))))))))
theorem in_q242 : q242 ∈ hQs := List.mem_append_right _ (List.mem_append_right _ (List.mem_append_right _ (List.mem_append_right _ (List.mem_append_right _ (List.mem_append_right _ (List.mem_append_right _ (List.mem_append_right _ (List.mem_append_left _ (List.mem_of_getElem? (l := hq8) (i := 2) rfl)))))))))
theorem in_q243 : q243 ∈ hQs := List.mem_append_right _ (List.mem_append_right _ (List.mem_append_right _ (List.mem_append_right _ (List.mem_append_right _ (List.mem_append_right _ (List.mem_append_right _ (List.mem_append_right _ (List.mem_append_left _ (List.mem_of_getElem? (l := hq8) (i := 3) rfl)))))))))
theorem in_q244 : q244 ∈ hQs := List.mem_append_right _ (List.mem_append_right _ (List.mem_append_right _ (List.mem_append_right _ (List.mem_append_right _ (List.mem_append_right _ (List.mem_append_right _ (List.mem_append_right _ (List.mem_append_left _ (List.mem_of_getElem? (l := hq8) (i := 4) rfl)))))))))
theorem in_q245 : q245 ∈ hQs := List.mem_append_right _ (List.mem_append_right _ (List.mem_append_right _ (List.mem_append_right _ (List.mem_append_right _ (List.mem_append_right _ (List.mem_append_right _ (List.mem_append_right _ (List.mem_append_left _ (List.mem_of_getElem? (l := hq8) (i := 5) rfl)))))))))
theorem in_q246 : q246 ∈ hQs := List.mem_append_right _ (List.mem_append_right _ (List.mem_append_right _ (List.mem_append_right _ (List.mem_append_right _ (List.mem_append_right _ (List.mem_append_right _ (List.mem_append_right _ (List.mem_append_left _ (List.mem_of_getElem? (l := hq8) (i := 6) rfl)))))))))
theorem in_q247 : q247 ∈ hQs := List.mem_append_right _ (List.mem_append_right _ (List.mem_append_right _ (List.mem_append_right _ (List.mem_append_right _ (List.mem_append_right _ (List.mem_append_right _ (List.mem_append_right _ (List.mem_append_left _ (List.mem_of_getElem? (l := hq8) (i := 7) rfl)))))))))
theorem in_q248 : q248 ∈ hQs := List.mem_append_right _ (List.mem_append_right _ (List.mem_append_right _ (List.mem_append_right _ (List.mem_append_right _ (List.mem_append_right _ (List.mem_append_right _ (List.mem_append_right _ (List.mem_append_left _ (List.mem_of_getElem? (l := hq8) (i := 8) rfl)))))))))
theorem in_q249 : q249 ∈ hQs := List.mem_append_right _ (List.mem_append_right _ (List.mem_append_right _ (List.mem_append_right _ (List.mem_append_right _ (List.mem_append_right _ (List.mem_append_right _ (List.mem_append_right _ (List.mem_append_left _ (List.mem_of_getElem? (l := hq8) (i := 9) rfl)))))))))
theorem in_q250 : q250 ∈ hQs := List.mem_append_right _ (List.mem_append_right _ (List.mem_append_right _ (List.mem_append_right _ (List.mem_append_right _ (List.mem_append_right _ (List.mem_append_right _ (List.mem_append_right _ (List.mem_append_left _ (List.mem_of_getElem? (l := hq8) (i := 10) rfl)))))))))
theorem in_q251 : q251 ∈ hQs := List.mem_append_right _ (List.mem_append_right _ (List.mem_append_right _ (List.mem_append_right _ (List.mem_append_right _ (List.mem_append_right _ (List.mem_append_right _ (List.mem_append_right _ (List.mem_append_left _ (List.mem_of_getElem? (l := hq8) (i := 11) rfl)))))))))
theorem in_q252 : q252 ∈ hQs := List.mem_append_right _ (List.mem_append_right _ (List.mem_append_right _ (List.mem_append_right _ (List.mem_append_right _ (List.mem_append_right _ (List.mem_append_right _ (List.mem_append_right _ (List.mem_append_left _ (List.mem_of_getElem? (l := hq8) (i := 12) rfl)))))))))
theorem in_q253 : q253 ∈ hQs := List.mem_append_right _ (List.mem_append_right _ (List.mem_append_right _ (List.mem_append_right _ (List.mem_append_right _ (List.mem_append_right _ (List.mem_append_right _ (List.mem_append_right _ (List.mem_append_left _ (List.mem_of_getElem? (l := hq8) (i := 13) rfl)))))))))
theorem in_q254 : q254 ∈ hQs := List.mem_append_right _ (List.mem_append_right _ (List.mem_append_right _ (List.mem_append_right _ (List.mem_append_right _ (List.mem_append_right _ (List.mem_append_right _ (List.mem_append_right _ (List.mem_append_left _ (List.mem_of_getElem? (l := hq8) (i := 14) rfl)))))))))
theorem in_q255 : q255 ∈ hQs := List.mem_append_right _ (List.mem_append_right _ (List.mem_append_right _ (List.mem_append_right _ (List.mem_append_right _ (List.mem_append_right _ (List.mem_append_right _ (List.mem_append_right _ (List.mem_append_left _ (List.mem_of_getElem? (l := hq8) (i := 15) rfl)))))))))
theorem in_q256 : q256 ∈ hQs := List.mem_append_right _ (List.mem_append_right _ (List.mem_append_right _ (List.mem_append_right _ (List.mem_append_right _ (List.mem_append_right _ (List.mem_append_right _ (List.mem_append_right _ (List.mem_append_left _ (List.mem_of_getElem? (l := hq8) (i := 16) rfl)))))))))
theorem in_q257 : q257 ∈ hQs := List.mem_append_right _ (List.mem_append_right _ (List.mem_append_right _ (List.mem_append_right _ (List.mem_append_right _ (List.mem_append_right _ (List.mem_append_right _ (List.mem_append_right _ (List.mem_append_left _ (List.mem_of_getElem? (l := hq8) (i := 17) rfl)))))))))
theorem in_q258 : q258 ∈ hQs := List.mem_append_right _ (List.mem_append_right _ (List.mem_append_right _ (List.mem_append_right _ (List.mem_append_right _ (List.mem_append_right _ (List.mem_append_right _ (List.mem_append_right _ (List.mem_append_left _ (List.mem_of_getElem? (l := hq8) (i := 18) rfl)))))))))
theorem in_q259 : q259 ∈ hQs := List.mem_append_right _ (List.mem_append_right _ (List.mem_append_right _ (List.mem_append_right _ (List.mem_append_right _ (List.mem_append_right _ (List.mem_append_right _ (List.mem_append_right _ (List.mem_append_left _ (List.mem_of_getElem? (l := hq8) (i := 19) rfl)))))))))
theorem in_q260 : q260 ∈ hQs := List.mem_append_right _ (List.mem_append_right _ (List.mem_append_right _ (List.mem_append_right _ (List.mem_append_right _ (List.mem_append_right _ (List.mem_append_right _ (List.mem_append_right _ (List.mem_append_left _ (List.mem_of_getElem? (l := hq8) (i := 20) rfl)))))))))
theorem in_q261 : q261 ∈ hQs := List.mem_append_right _ (List.mem_append_right _ (List.mem_append_right _ (List.mem_append_right _ (List.mem_append_right _ (List.mem_append_right _ (List.mem_append_right _ (List.mem_append_right _ (List.mem_append_left _ (List.mem_of_getElem? (l := hq8) (i := 21) rfl)))))))))
theorem in_q262 : q262 ∈ hQs := List.mem_append_right _ (List.mem_append_right _ (List.mem_append_right _ (List.mem_append_right _ (List.mem_append_right _ (List.mem_append_right _ (List.mem_append_right _ (List.mem_append_right _ (List.mem_append_left _ (List.mem_of_getElem? (l := hq8) (i := 22) rfl)))))))))
theorem in_q263 : q263 ∈ hQs := List.mem_append_right _ (List.mem_append_right _ (List.mem_append_right _ (List.mem_append_right _ (List.mem_append_right _ (List.mem_append_right _ (List.mem_append_right _ (List.mem_append_right _ (List.mem_append_left _ (List.mem_of_getElem? (l := hq8) (i := 23) rfl)))))))))
theorem in_q264 : q264 ∈ hQs := List.mem_append_right _ (List.mem_append_right _ (List.mem_append_right _ (List.mem_append_right _ (List.mem_append_right _ (List.mem_append_right _ (List.mem_append_right _ (List.mem_append_right _ (List.mem_append_left _ (List.mem_of_getElem? (l := hq8) (i := 24) rfl)))))))))
theorem in_q265 : q265 ∈ hQs := List.mem_append_right _ (List.mem_append_right _ (List.mem_append_right _ (List.mem_append_right _ (List.mem_append_right _ (List.mem_append_right _ (List.mem_append_right _ (List.mem_append_right _ (List.mem_append_left _ (List.mem_of_getElem? (l := hq8) (i := 25) rfl)))))))))
theorem in_q266 : q266 ∈ hQs := List.mem_append_right _ (List.mem_append_right _ (List.mem_append_right _ (List.mem_append_right _ (List.mem_append_right _ (List.mem_append_right _ (List.mem_append_right _ (List.mem_append_right _ (List.mem_append_left _ (List.mem_of_getElem? (l := hq8) (i := 26) rfl)))))))))
theorem in_q267 : q267 ∈ hQs := List.mem_append_right _ (List.mem_append_right _ (List.mem_append_right _ (List.mem_append_right _ (List.mem_append_right _ (List.mem_append_right _ (List.mem_append_right _ (List.mem_append_right _ (List.mem_append_left _ (List.mem_of_getElem? (l := hq8) (i := 27) rfl)))))))))
theorem in_q268 : q268 ∈ hQs := List.mem_append_right _ (List.mem_append_right _ (List.mem_append_right _ (List.mem_append_right _ (List.mem_append_right _ (List.mem_append_right _ (List.mem_append_right _ (List.mem_append_right _ (List.mem_append_left _ (List.mem_of_getElem? (l := hq8) (i := 28) rfl)))))))))
theorem in_q269 : q269 ∈ hQs := List.mem_append_right _ (List.mem_append_right _ (List.mem_append_right _ (List.mem_append_right _ (List.mem_append_right _ (List.mem_append_right _ (List.mem_append_right _ (List.mem_append_right _ (List.mem_append_left _ (List.mem_of_getElem? (l := hq8) (i := 29) rfl)))))))))
theorem in_q270 : q270 ∈ hQs := List.mem_append_right _ (List.mem_append_right _ (List.mem_append_right _ (List.mem_append_right _ (List.mem_append_right _ (List.mem_append_right _ (List.mem_append_right _ (List.mem_append_right _ (List.mem_append_right _ (List.mem_of_getElem? (l := hq9) (i := 0) rfl)))))))))
theorem in_q271 : q271 ∈ hQs := List.mem_append_right _ (List.mem_append_right _ (List.mem_append_right _ (List.mem_append_right _ (List.mem_append_right _ (List.mem_append_right _ (List.mem_append_right _ (List.mem_append_right _ (List.mem_append_right _ (List.mem_of_getElem? (l := hq9) (i := 1) rfl)))))))))
theorem in_q272 : q272 ∈ hQs := List.mem_append_right _ (List.mem_append_right _ (List.mem_append_right _ (List.mem_append_right _ (List.mem_append_right _ (List.mem_append_right _ (List.mem_append_right _ (List.mem_append_right _ (List.mem_append_right _ (List.mem_of_getElem? (l := hq9) (i := 2) rfl)))))))))
theorem in_q273 : q273 ∈ hQs := List.mem_append_right _ (List.mem_append_right _ (List.mem_append_right _ (List.mem_append_right _ (List.mem_append_right _ (List.mem_append_right _ (List.mem_append_right _ (List.mem_append_right _ (List.mem_append_right _ (List.mem_of_getElem? (l := hq9) (i := 3) rfl)))))))))
theorem in_q274 : q274 ∈ hQs := List.mem_append_right _ (List.mem_append_right _ (List.mem_append_right _ (List.mem_append_right _ (List.mem_append_right _ (List.mem_append_right _ (List.mem_append_right _ (List.mem_append_right _ (List.mem_append_right _ (List.mem_of_getElem? (l := hq9) (i := 4) rfl)))))))))
theorem in_q275 : q275 ∈ hQs := List.mem_append_right _ (List.mem_append_right _ (List.mem_append_right _ (List.mem_append_right _ (List.mem_append_right _ (List.mem_append_right _ (List.mem_append_right _ (List.mem_append_right _ (List.mem_append_right _ (List.mem_of_getElem? (l := hq9) (i := 5) rfl)))))))))
theorem in_q276 : q276 ∈ hQs := List.mem_append_right _ (List.mem_append_right _ (List.mem_append_right _ (List.mem_append_right _ (List.mem_append_right _ (List.mem_append_right _ (List.mem_append_right _ (List.mem_append_right _ (List.mem_append_right _ (List.mem_of_getElem? (l := hq9) (i := 6) rfl)))))))))
theorem in_q277 : q277 ∈ hQs := List.mem_append_right _ (List.mem_append_right _ (List.mem_append_right _ (List.mem_append_right _ (List.mem_append_right _ (List.mem_append_right _ (List.mem_append_right _ (List.mem_append_right _ (List.mem_append_right _ (List.mem_of_getElem? (l := hq9) (i := 7) rfl)))))))))
theorem in_q278 : q278 ∈ hQs := List.mem_append_right _ (List.mem_append_right _ (List.mem_append_right _ (List.mem_append_right _ (List.mem_append_right _ (List.mem_append_right _ (List.mem_append_right _ (List.mem_append_right _ (List.mem_append_right _ (List.mem_of_getElem? (l := hq9) (i := 8) rfl)))))))))
theorem in_q279 : q279 ∈ hQs := List.mem_append_right _ (List.mem_append_right _ (List.mem_append_right _ (List.mem_append_right _ (List.mem_append_right _ (List.mem_append_right _ (List.mem_append_right _ (List.mem_append_right _ (List.mem_append_right _ (List.mem_of_getElem? (l := hq9) (i := 9) rfl)))))))))
theorem in_q280 : q280 ∈ hQs := List.mem_append_right _ (List.mem_append_right _ (List.mem_append_right _ (List.mem_append_right _ (List.mem_append_right _ (List.mem_append_right _ (List.mem_append_right _ (List.mem_append_right _ (List.mem_append_right _ (List.mem_of_getElem? (l := hq9) (i := 10) rfl)))))))))
theorem in_q281 : q281 ∈ hQs := List.mem_append_right _ (List.mem_append_right _ (List.mem_append_right _ (List.mem_append_right _ (List.mem_append_right _ (List.mem_append_right _ (List.mem_append_right _ (List.mem_append_right _ (List.mem_append_right _ (List.mem_of_getElem? (l := hq9) (i := 11) rfl)))))))))
theorem in_q282 : q282 ∈ hQs := List.mem_append_right _ (List.mem_append_right _ (List.mem_append_right _ (List.mem_append_right _ (List.mem_append_right _ (List.mem_append_right _ (List.mem_append_right _ (List.mem_append_right _ (List.mem_append_right _ (List.mem_of_getElem? (l := hq9) (i := 12) rfl)))))))))
theorem in_q283 : q283 ∈ hQs := List.mem_append_right _ (List.mem_append_right _ (List.mem_append_right _ (List.mem_append_right _ (List.mem_append_right _ (List.mem_append_right _ (List.mem_append_right _ (List.mem_append_right _ (List.mem_append_right _ (List.mem_of_getElem? (l := hq9) (i := 13) rfl)))))))))
def hd0 : List DefR := [d_BadSign_init, d_BadHeight_init, d_NoRule_init, d_BadLine_init, d_BadBound_init, d_Useless_init, d_is_sign, d_check_text, d_decoded, d_check_height, d_check_bound, d_Rule_init, d_Rule_str, d_Book_init, d_Book_signs, d_Book_numbered, d_Book_drop, d_Book_written, d__read_rule, d_Book_read, d__check_states, d__leads_of, d_led_to, d__check_useful, d_Lot_init, d_Lot_moves, d__law_pool, d__law_pick, d__law_alphabet, d__law_word_of]
def hd1 : List DefR := [d__law_is_int, d__law_book_of, d__law_led_from, d__law_lot_of, d__law_lines_of, d_Book_summed, d_Book_sizes_at_bound, d_Book_sizes_below, d_Book_grown, d_machine_size, d__law_same, d__law_grown_told, d__law_asked, d__law_size_table, d__law_due_of, d_Book_growths, d__law_places_of, d__law_fine, d_law]
def hDs : List DefR := hd0 ++ (hd1)
theorem in_d_BadSign_init : d_BadSign_init ∈ hDs := List.mem_append_left _ (List.mem_of_getElem? (l := hd0) (i := 0) rfl)
theorem in_d_BadHeight_init : d_BadHeight_init ∈ hDs := List.mem_append_left _ (List.mem_of_getElem? (l := hd0) (i := 1) rfl)
theorem in_d_NoRule_init : d_NoRule_init ∈ hDs := List.mem_append_left _ (List.mem_of_getElem? (l := hd0) (i := 2) rfl)
theorem in_d_BadLine_init : d_BadLine_init ∈ hDs := List.mem_append_left _ (List.mem_of_getElem? (l := hd0) (i := 3) rfl)
theorem in_d_BadBound_init : d_BadBound_init ∈ hDs := List.mem_append_left _ (List.mem_of_getElem? (l := hd0) (i := 4) rfl)
theorem in_d_Useless_init : d_Useless_init ∈ hDs := List.mem_append_left _ (List.mem_of_getElem? (l := hd0) (i := 5) rfl)
theorem in_d_is_sign : d_is_sign ∈ hDs := List.mem_append_left _ (List.mem_of_getElem? (l := hd0) (i := 6) rfl)
theorem in_d_check_text : d_check_text ∈ hDs := List.mem_append_left _ (List.mem_of_getElem? (l := hd0) (i := 7) rfl)
theorem in_d_decoded : d_decoded ∈ hDs := List.mem_append_left _ (List.mem_of_getElem? (l := hd0) (i := 8) rfl)
theorem in_d_check_height : d_check_height ∈ hDs := List.mem_append_left _ (List.mem_of_getElem? (l := hd0) (i := 9) rfl)
theorem in_d_check_bound : d_check_bound ∈ hDs := List.mem_append_left _ (List.mem_of_getElem? (l := hd0) (i := 10) rfl)
theorem in_d_Rule_init : d_Rule_init ∈ hDs := List.mem_append_left _ (List.mem_of_getElem? (l := hd0) (i := 11) rfl)
theorem in_d_Rule_str : d_Rule_str ∈ hDs := List.mem_append_left _ (List.mem_of_getElem? (l := hd0) (i := 12) rfl)
theorem in_d_Book_init : d_Book_init ∈ hDs := List.mem_append_left _ (List.mem_of_getElem? (l := hd0) (i := 13) rfl)
theorem in_d_Book_signs : d_Book_signs ∈ hDs := List.mem_append_left _ (List.mem_of_getElem? (l := hd0) (i := 14) rfl)
theorem in_d_Book_numbered : d_Book_numbered ∈ hDs := List.mem_append_left _ (List.mem_of_getElem? (l := hd0) (i := 15) rfl)
theorem in_d_Book_drop : d_Book_drop ∈ hDs := List.mem_append_left _ (List.mem_of_getElem? (l := hd0) (i := 16) rfl)
theorem in_d_Book_written : d_Book_written ∈ hDs := List.mem_append_left _ (List.mem_of_getElem? (l := hd0) (i := 17) rfl)
theorem in_d__read_rule : d__read_rule ∈ hDs := List.mem_append_left _ (List.mem_of_getElem? (l := hd0) (i := 18) rfl)
theorem in_d_Book_read : d_Book_read ∈ hDs := List.mem_append_left _ (List.mem_of_getElem? (l := hd0) (i := 19) rfl)
theorem in_d__check_states : d__check_states ∈ hDs := List.mem_append_left _ (List.mem_of_getElem? (l := hd0) (i := 20) rfl)
theorem in_d__leads_of : d__leads_of ∈ hDs := List.mem_append_left _ (List.mem_of_getElem? (l := hd0) (i := 21) rfl)
theorem in_d_led_to : d_led_to ∈ hDs := List.mem_append_left _ (List.mem_of_getElem? (l := hd0) (i := 22) rfl)
theorem in_d__check_useful : d__check_useful ∈ hDs := List.mem_append_left _ (List.mem_of_getElem? (l := hd0) (i := 23) rfl)
theorem in_d_Lot_init : d_Lot_init ∈ hDs := List.mem_append_left _ (List.mem_of_getElem? (l := hd0) (i := 24) rfl)
theorem in_d_Lot_moves : d_Lot_moves ∈ hDs := List.mem_append_left _ (List.mem_of_getElem? (l := hd0) (i := 25) rfl)
theorem in_d__law_pool : d__law_pool ∈ hDs := List.mem_append_left _ (List.mem_of_getElem? (l := hd0) (i := 26) rfl)
theorem in_d__law_pick : d__law_pick ∈ hDs := List.mem_append_left _ (List.mem_of_getElem? (l := hd0) (i := 27) rfl)
theorem in_d__law_alphabet : d__law_alphabet ∈ hDs := List.mem_append_left _ (List.mem_of_getElem? (l := hd0) (i := 28) rfl)
theorem in_d__law_word_of : d__law_word_of ∈ hDs := List.mem_append_left _ (List.mem_of_getElem? (l := hd0) (i := 29) rfl)
theorem in_d__law_is_int : d__law_is_int ∈ hDs := List.mem_append_right _ (List.mem_of_getElem? (l := hd1) (i := 0) rfl)
theorem in_d__law_book_of : d__law_book_of ∈ hDs := List.mem_append_right _ (List.mem_of_getElem? (l := hd1) (i := 1) rfl)
theorem in_d__law_led_from : d__law_led_from ∈ hDs := List.mem_append_right _ (List.mem_of_getElem? (l := hd1) (i := 2) rfl)
theorem in_d__law_lot_of : d__law_lot_of ∈ hDs := List.mem_append_right _ (List.mem_of_getElem? (l := hd1) (i := 3) rfl)
theorem in_d__law_lines_of : d__law_lines_of ∈ hDs := List.mem_append_right _ (List.mem_of_getElem? (l := hd1) (i := 4) rfl)
theorem in_d_Book_summed : d_Book_summed ∈ hDs := List.mem_append_right _ (List.mem_of_getElem? (l := hd1) (i := 5) rfl)
theorem in_d_Book_sizes_at_bound : d_Book_sizes_at_bound ∈ hDs := List.mem_append_right _ (List.mem_of_getElem? (l := hd1) (i := 6) rfl)
theorem in_d_Book_sizes_below : d_Book_sizes_below ∈ hDs := List.mem_append_right _ (List.mem_of_getElem? (l := hd1) (i := 7) rfl)
theorem in_d_Book_grown : d_Book_grown ∈ hDs := List.mem_append_right _ (List.mem_of_getElem? (l := hd1) (i := 8) rfl)
theorem in_d_machine_size : d_machine_size ∈ hDs := List.mem_append_right _ (List.mem_of_getElem? (l := hd1) (i := 9) rfl)
theorem in_d__law_same : d__law_same ∈ hDs := List.mem_append_right _ (List.mem_of_getElem? (l := hd1) (i := 10) rfl)
theorem in_d__law_grown_told : d__law_grown_told ∈ hDs := List.mem_append_right _ (List.mem_of_getElem? (l := hd1) (i := 11) rfl)
theorem in_d__law_asked : d__law_asked ∈ hDs := List.mem_append_right _ (List.mem_of_getElem? (l := hd1) (i := 12) rfl)
theorem in_d__law_size_table : d__law_size_table ∈ hDs := List.mem_append_right _ (List.mem_of_getElem? (l := hd1) (i := 13) rfl)
theorem in_d__law_due_of : d__law_due_of ∈ hDs := List.mem_append_right _ (List.mem_of_getElem? (l := hd1) (i := 14) rfl)
theorem in_d_Book_growths : d_Book_growths ∈ hDs := List.mem_append_right _ (List.mem_of_getElem? (l := hd1) (i := 15) rfl)
theorem in_d__law_places_of : d__law_places_of ∈ hDs := List.mem_append_right _ (List.mem_of_getElem? (l := hd1) (i := 16) rfl)
theorem in_d__law_fine : d__law_fine ∈ hDs := List.mem_append_right _ (List.mem_of_getElem? (l := hd1) (i := 17) rfl)
theorem in_d_law : d_law ∈ hDs := List.mem_append_right _ (List.mem_of_getElem? (l := hd1) (i := 18) rfl)
def hn0 : List Str := ["_wall", "RiseError", "BadSign", "NoPlace", "Mismatch", "BadHeight", "Beyond", "NoRule", "BadLine", "BadBound", "Uneven", "BadRule", "BookFull", "BadLot", "Useless", "decoded", "is_sign", "check_text", "check_height", "check_bound", "Row", "_row_of", "Rule", "Book", "_fits", "_stepped", "_read_rule", "Lot", "machine_size", "_check_states"]
def hn1 : List Str := ["_leads_of", "_check_useful", "led_to", "_beginnings_of", "_law_pool", "_law_pick", "_law_alphabet", "_law_word_of", "_law_book_of", "_law_size_table", "_law_is_int", "_law_led_from", "_law_lot_of", "_law_lines_of", "_law_grown_told", "_law_asked", "_law_due_of", "_law_same", "_law_places_of", "_law_fine", "SIGNS", "GREATEST_HEIGHT", "GREATEST_BOUND", "MOST_SIGNS", "MOST_RULES", "MOST_STATES"]
def hNs : List Str := hn0 ++ (hn1)
def hx0 : List Str := ["BadSign", "BadHeight", "NoRule", "BadLine", "BadBound", "Uneven", "BadRule", "BookFull", "Useless", "BadLot", "Rule", "Book", "Lot", "is_sign", "check_text", "decoded", "check_height", "check_bound", "_read_rule", "_check_states", "_leads_of", "led_to", "_check_useful", "_law_pool", "_law_pick", "_law_alphabet", "_law_word_of", "_law_is_int", "_law_book_of", "_law_led_from"]
def hx1 : List Str := ["_law_lot_of", "_law_lines_of", "machine_size", "_law_same", "_law_grown_told", "_law_asked", "_law_size_table", "_law_due_of", "_law_places_of", "_law_fine", "law"]
def hXs : List Str := hx0 ++ (hx1)
theorem all_mk {w : World} {K : PySem.W.Frag} {h : Heap} {mg : Str → Option Value} {fa : Addr} (X : K.In h) (G : h.Ns mainGlobals mg) (hfa : mg "law" = some (.ref fa)) (c : SaysR hQs hDs K)
    : ∃ fd : FuncData, (∀ (s : Shared) (u : Value), BindsTo s fd ⟨[u], []⟩ [("_law_script", u)]) ∧ ∀ base : Heap, K.In base → base.Ns mainGlobals mg → FnOk prg w K mg base (L2.CX prg w) 14 fa fd ["_law_script"] (spLaw K) := by
  have e := hfa.symm.trans (He.glo_ok X G (c.yes (q := q283) (in_q283)))
  have e2 : (Pa.glo "law").at K = fa := by cases e; rfl
  obtain ⟨oc_BadSign_init, kV_BadSign_init, doc_BadSign_init, pm_BadSign_init, ct_BadSign_init, ccl_BadSign_init, cl_BadSign_init, od_BadSign_init, an_BadSign_init, cdd_BadSign_init, cld_BadSign_init, osl_BadSign_init, ccs_BadSign_init, csl_BadSign_init, vs_BadSign_init, file_BadSign_init, tf_BadSign_init, cc_BadSign_init, cda_BadSign_init, y1_BadSign_init, y2_BadSign_init, y3_BadSign_init, y4_BadSign_init, y5_BadSign_init, y6_BadSign_init⟩ := exiB_ok (P := prg) (d := d_BadSign_init) (C := He.ga K "BadSign") (c.val in_d_BadSign_init) (c.yes (q := q30) (in_q30))
  obtain ⟨oc_BadHeight_init, kV_BadHeight_init, doc_BadHeight_init, pm_BadHeight_init, ct_BadHeight_init, ccl_BadHeight_init, cl_BadHeight_init, od_BadHeight_init, an_BadHeight_init, cdd_BadHeight_init, cld_BadHeight_init, osl_BadHeight_init, ccs_BadHeight_init, csl_BadHeight_init, vs_BadHeight_init, file_BadHeight_init, tf_BadHeight_init, cc_BadHeight_init, cda_BadHeight_init, y1_BadHeight_init, y2_BadHeight_init, y3_BadHeight_init, y4_BadHeight_init, y5_BadHeight_init, y6_BadHeight_init⟩ := exiB_ok (P := prg) (d := d_BadHeight_init) (C := He.ga K "BadHeight") (c.val in_d_BadHeight_init) (c.yes (q := q46) (in_q46))
  obtain ⟨oc_NoRule_init, kV_NoRule_init, doc_NoRule_init, pm_NoRule_init, ct_NoRule_init, ccl_NoRule_init, cl_NoRule_init, od_NoRule_init, an_NoRule_init, cdd_NoRule_init, cld_NoRule_init, osl_NoRule_init, ccs_NoRule_init, csl_NoRule_init, vs_NoRule_init, file_NoRule_init, tf_NoRule_init, cc_NoRule_init, cda_NoRule_init, y1_NoRule_init, y2_NoRule_init, y3_NoRule_init, y4_NoRule_init, y5_NoRule_init, y6_NoRule_init⟩ := exiB_ok (P := prg) (d := d_NoRule_init) (C := He.ga K "NoRule") (c.val in_d_NoRule_init) (c.yes (q := q60) (in_q60))
  obtain ⟨oc_BadLine_init, kV_BadLine_init, doc_BadLine_init, pm_BadLine_init, ct_BadLine_init, ccl_BadLine_init, cl_BadLine_init, od_BadLine_init, an_BadLine_init, cdd_BadLine_init, cld_BadLine_init, osl_BadLine_init, ccs_BadLine_init, csl_BadLine_init, vs_BadLine_init, file_BadLine_init, tf_BadLine_init, cc_BadLine_init, cda_BadLine_init, y1_BadLine_init, y2_BadLine_init, y3_BadLine_init, y4_BadLine_init, y5_BadLine_init, y6_BadLine_init⟩ := exiB_ok (P := prg) (d := d_BadLine_init) (C := He.ga K "BadLine") (c.val in_d_BadLine_init) (c.yes (q := q74) (in_q74))
  obtain ⟨oc_BadBound_init, kV_BadBound_init, doc_BadBound_init, pm_BadBound_init, ct_BadBound_init, ccl_BadBound_init, cl_BadBound_init, od_BadBound_init, an_BadBound_init, cdd_BadBound_init, cld_BadBound_init, osl_BadBound_init, ccs_BadBound_init, csl_BadBound_init, vs_BadBound_init, file_BadBound_init, tf_BadBound_init, cc_BadBound_init, cda_BadBound_init, y1_BadBound_init, y2_BadBound_init, y3_BadBound_init, y4_BadBound_init, y5_BadBound_init, y6_BadBound_init⟩ := exiB_ok (P := prg) (d := d_BadBound_init) (C := He.ga K "BadBound") (c.val in_d_BadBound_init) (c.yes (q := q88) (in_q88))
  obtain ⟨oc_Useless_init, kV_Useless_init, doc_Useless_init, pm_Useless_init, ct_Useless_init, ccl_Useless_init, cl_Useless_init, od_Useless_init, an_Useless_init, cdd_Useless_init, cld_Useless_init, osl_Useless_init, ccs_Useless_init, csl_Useless_init, vs_Useless_init, file_Useless_init, tf_Useless_init, cc_Useless_init, cda_Useless_init, y1_Useless_init, y2_Useless_init, y3_Useless_init, y4_Useless_init, y5_Useless_init, y6_Useless_init⟩ := exiB_ok (P := prg) (d := d_Useless_init) (C := He.ga K "Useless") (c.val in_d_Useless_init) (c.yes (q := q108) (in_q108))
  obtain ⟨fd_is_sign, FD_is_sign⟩ := DefR.funD (d := d_is_sign) (c.val in_d_is_sign) (c.okd in_d_is_sign) rfl
  obtain ⟨fd_check_text, FD_check_text⟩ := DefR.funD (d := d_check_text) (c.val in_d_check_text) (c.okd in_d_check_text) rfl
  obtain ⟨fd_decoded, FD_decoded⟩ := DefR.funD (d := d_decoded) (c.val in_d_decoded) (c.okd in_d_decoded) rfl
  obtain ⟨fd_check_height, FD_check_height⟩ := DefR.funD (d := d_check_height) (c.val in_d_check_height) (c.okd in_d_check_height) rfl
  obtain ⟨fd_check_bound, FD_check_bound⟩ := DefR.funD (d := d_check_bound) (c.val in_d_check_bound) (c.okd in_d_check_bound) rfl
  obtain ⟨fd_Rule_init, FD_Rule_init⟩ := DefR.funD (d := d_Rule_init) (c.val in_d_Rule_init) (c.okd in_d_Rule_init) rfl
  obtain ⟨fd_Rule_str, FD_Rule_str⟩ := DefR.funD (d := d_Rule_str) (c.val in_d_Rule_str) (c.okd in_d_Rule_str) rfl
  obtain ⟨fd_Book_init, FD_Book_init⟩ := DefR.funD (d := d_Book_init) (c.val in_d_Book_init) (c.okd in_d_Book_init) rfl
  obtain ⟨fd_Book_signs, FD_Book_signs⟩ := DefR.funD (d := d_Book_signs) (c.val in_d_Book_signs) (c.okd in_d_Book_signs) rfl
  obtain ⟨fd_Book_numbered, FD_Book_numbered⟩ := DefR.funD (d := d_Book_numbered) (c.val in_d_Book_numbered) (c.okd in_d_Book_numbered) rfl
  obtain ⟨fd_Book_drop, FD_Book_drop⟩ := DefR.funD (d := d_Book_drop) (c.val in_d_Book_drop) (c.okd in_d_Book_drop) rfl
  obtain ⟨fd_Book_written, FD_Book_written⟩ := DefR.funD (d := d_Book_written) (c.val in_d_Book_written) (c.okd in_d_Book_written) rfl
  obtain ⟨fd__read_rule, FD__read_rule⟩ := DefR.funD (d := d__read_rule) (c.val in_d__read_rule) (c.okd in_d__read_rule) rfl
  obtain ⟨fd_Book_read, FD_Book_read⟩ := DefR.funD (d := d_Book_read) (c.val in_d_Book_read) (c.okd in_d_Book_read) rfl
  obtain ⟨fd__check_states, FD__check_states⟩ := DefR.funD (d := d__check_states) (c.val in_d__check_states) (c.okd in_d__check_states) rfl
  obtain ⟨fd__leads_of, FD__leads_of⟩ := DefR.funD (d := d__leads_of) (c.val in_d__leads_of) (c.okd in_d__leads_of) rfl
  obtain ⟨fd_led_to, FD_led_to⟩ := DefR.funD (d := d_led_to) (c.val in_d_led_to) (c.okd in_d_led_to) rfl
  obtain ⟨fd__check_useful, FD__check_useful⟩ := DefR.funD (d := d__check_useful) (c.val in_d__check_useful) (c.okd in_d__check_useful) rfl
  obtain ⟨fd_Lot_init, FD_Lot_init⟩ := DefR.funD (d := d_Lot_init) (c.val in_d_Lot_init) (c.okd in_d_Lot_init) rfl
  obtain ⟨fd_Lot_moves, FD_Lot_moves⟩ := DefR.funD (d := d_Lot_moves) (c.val in_d_Lot_moves) (c.okd in_d_Lot_moves) rfl
  obtain ⟨fd__law_pool, FD__law_pool⟩ := DefR.funD (d := d__law_pool) (c.val in_d__law_pool) (c.okd in_d__law_pool) rfl
  obtain ⟨fd__law_pick, FD__law_pick⟩ := DefR.funD (d := d__law_pick) (c.val in_d__law_pick) (c.okd in_d__law_pick) rfl
  obtain ⟨fd__law_alphabet, FD__law_alphabet⟩ := DefR.funD (d := d__law_alphabet) (c.val in_d__law_alphabet) (c.okd in_d__law_alphabet) rfl
  obtain ⟨fd__law_word_of, FD__law_word_of⟩ := DefR.funD (d := d__law_word_of) (c.val in_d__law_word_of) (c.okd in_d__law_word_of) rfl
  obtain ⟨fd__law_is_int, FD__law_is_int⟩ := DefR.funD (d := d__law_is_int) (c.val in_d__law_is_int) (c.okd in_d__law_is_int) rfl
  obtain ⟨fd__law_book_of, FD__law_book_of⟩ := DefR.funD (d := d__law_book_of) (c.val in_d__law_book_of) (c.okd in_d__law_book_of) rfl
  obtain ⟨fd__law_led_from, FD__law_led_from⟩ := DefR.funD (d := d__law_led_from) (c.val in_d__law_led_from) (c.okd in_d__law_led_from) rfl
  obtain ⟨fd__law_lot_of, FD__law_lot_of⟩ := DefR.funD (d := d__law_lot_of) (c.val in_d__law_lot_of) (c.okd in_d__law_lot_of) rfl
  obtain ⟨fd__law_lines_of, FD__law_lines_of⟩ := DefR.funD (d := d__law_lines_of) (c.val in_d__law_lines_of) (c.okd in_d__law_lines_of) rfl
  obtain ⟨fd_Book_summed, FD_Book_summed⟩ := DefR.funD (d := d_Book_summed) (c.val in_d_Book_summed) (c.okd in_d_Book_summed) rfl
  obtain ⟨fd_Book_sizes_at_bound, FD_Book_sizes_at_bound⟩ := DefR.funD (d := d_Book_sizes_at_bound) (c.val in_d_Book_sizes_at_bound) (c.okd in_d_Book_sizes_at_bound) rfl
  obtain ⟨fd_Book_sizes_below, FD_Book_sizes_below⟩ := DefR.funD (d := d_Book_sizes_below) (c.val in_d_Book_sizes_below) (c.okd in_d_Book_sizes_below) rfl
  obtain ⟨fd_Book_grown, FD_Book_grown⟩ := DefR.funD (d := d_Book_grown) (c.val in_d_Book_grown) (c.okd in_d_Book_grown) rfl
  obtain ⟨fd_machine_size, FD_machine_size⟩ := DefR.funD (d := d_machine_size) (c.val in_d_machine_size) (c.okd in_d_machine_size) rfl
  obtain ⟨fd__law_same, FD__law_same⟩ := DefR.funD (d := d__law_same) (c.val in_d__law_same) (c.okd in_d__law_same) rfl
  obtain ⟨fd__law_grown_told, FD__law_grown_told⟩ := DefR.funD (d := d__law_grown_told) (c.val in_d__law_grown_told) (c.okd in_d__law_grown_told) rfl
  obtain ⟨fd__law_asked, FD__law_asked⟩ := DefR.funD (d := d__law_asked) (c.val in_d__law_asked) (c.okd in_d__law_asked) rfl
  obtain ⟨fd__law_size_table, FD__law_size_table⟩ := DefR.funD (d := d__law_size_table) (c.val in_d__law_size_table) (c.okd in_d__law_size_table) rfl
  obtain ⟨fd__law_due_of, FD__law_due_of⟩ := DefR.funD (d := d__law_due_of) (c.val in_d__law_due_of) (c.okd in_d__law_due_of) rfl
  obtain ⟨fd_Book_growths, FD_Book_growths⟩ := DefR.funD (d := d_Book_growths) (c.val in_d_Book_growths) (c.okd in_d_Book_growths) rfl
  obtain ⟨fd__law_places_of, FD__law_places_of⟩ := DefR.funD (d := d__law_places_of) (c.val in_d__law_places_of) (c.okd in_d__law_places_of) rfl
  obtain ⟨fd__law_fine, FD__law_fine⟩ := DefR.funD (d := d__law_fine) (c.val in_d__law_fine) (c.okd in_d__law_fine) rfl
  obtain ⟨fd_law, FD_law⟩ := DefR.funD (d := d_law) (c.val in_d_law) (c.okd in_d_law) rfl
  let T : Txt K mg := {
    n_abs := He.free_ok X G (c.yes (q := q0) (in_q0))
    n_bool := He.free_ok X G (c.yes (q := q1) (in_q1))
    n_bytes := He.free_ok X G (c.yes (q := q2) (in_q2))
    n_classmethod := He.free_ok X G (c.yes (q := q3) (in_q3))
    n_enumerate := He.free_ok X G (c.yes (q := q4) (in_q4))
    n_int := He.free_ok X G (c.yes (q := q5) (in_q5))
    n_isinstance := He.free_ok X G (c.yes (q := q6) (in_q6))
    n_len := He.free_ok X G (c.yes (q := q7) (in_q7))
    n_list := He.free_ok X G (c.yes (q := q8) (in_q8))
    n_property := He.free_ok X G (c.yes (q := q9) (in_q9))
    n_range := He.free_ok X G (c.yes (q := q10) (in_q10))
    n_set := He.free_ok X G (c.yes (q := q11) (in_q11))
    n_sorted := He.free_ok X G (c.yes (q := q12) (in_q12))
    n_str := He.free_ok X G (c.yes (q := q13) (in_q13))
    n_sum := He.free_ok X G (c.yes (q := q14) (in_q14))
    n_tuple := He.free_ok X G (c.yes (q := q15) (in_q15))
    k_SIGNS := He.str_ok X G (c.yes (q := q16) (in_q16))
    k_GREATEST_HEIGHT := He.int_ok X G (c.yes (q := q17) (in_q17))
    k_GREATEST_BOUND := He.int_ok X G (c.yes (q := q18) (in_q18))
    k_MOST_SIGNS := He.int_ok X G (c.yes (q := q19) (in_q19))
    k_MOST_RULES := He.int_ok X G (c.yes (q := q20) (in_q20))
    k_MOST_STATES := He.int_ok X G (c.yes (q := q21) (in_q21))
    c_BadSign := He.ga K "BadSign"
    m_BadSign := He.glo_ok X G (c.yes (q := q22) (in_q22))
    o_BadSign := ⟨oexB_ok (c.yes (q := q25) (in_q25)), He.eqO_ok (c.yes (q := q26) (in_q26)), of_decide_eq_true (c.yes (q := q24) (in_q24)), of_decide_eq_true (c.yes (q := q27) (in_q27)), (c.yes (q := q28) (in_q28))⟩
    x_BadSign := ⟨xfB_ok (c.yes (q := q29) (in_q29)), He.eqO_ok (c.yes (q := q23) (in_q23))⟩
    f_BadSign_init := (Pa.meth "BadSign" "__init__").at K
    fd_BadSign_init := _
    i_BadSign := He.eqO_ok (c.yes (q := q31) (in_q31))
    t_BadSign := of_decide_eq_true (c.yes (q := q32) (in_q32))
    F_BadSign_init := ⟨⟨_, oc_BadSign_init, kV_BadSign_init, doc_BadSign_init, pm_BadSign_init, ct_BadSign_init, ccl_BadSign_init, cl_BadSign_init, od_BadSign_init, an_BadSign_init, cdd_BadSign_init, cld_BadSign_init, osl_BadSign_init, ccs_BadSign_init, csl_BadSign_init, vs_BadSign_init, file_BadSign_init, tf_BadSign_init, cc_BadSign_init, cda_BadSign_init, rfl, y1_BadSign_init, y2_BadSign_init, y3_BadSign_init, y4_BadSign_init, y5_BadSign_init, y6_BadSign_init⟩, He.eqO_ok (c.yes (q := q33) (in_q33)), He.free_ok X G (c.yes (q := q34) (in_q34)), He.eqO_ok (c.yes (q := q35) (in_q35)), of_decide_eq_true (c.yes (q := q36) (in_q36)), of_decide_eq_true (c.yes (q := q37) (in_q37)), He.eqO_ok (c.yes (q := q23) (in_q23)), by rfl⟩
    b_BadSign_init := .all fun us hl => match us, hl with | [_, _], _ => rfl
    c_BadHeight := He.ga K "BadHeight"
    m_BadHeight := He.glo_ok X G (c.yes (q := q38) (in_q38))
    o_BadHeight := ⟨oexB_ok (c.yes (q := q41) (in_q41)), He.eqO_ok (c.yes (q := q42) (in_q42)), of_decide_eq_true (c.yes (q := q40) (in_q40)), of_decide_eq_true (c.yes (q := q43) (in_q43)), (c.yes (q := q44) (in_q44))⟩
    x_BadHeight := ⟨xfB_ok (c.yes (q := q45) (in_q45)), He.eqO_ok (c.yes (q := q39) (in_q39))⟩
    f_BadHeight_init := (Pa.meth "BadHeight" "__init__").at K
    fd_BadHeight_init := _
    i_BadHeight := He.eqO_ok (c.yes (q := q47) (in_q47))
    t_BadHeight := of_decide_eq_true (c.yes (q := q48) (in_q48))
    F_BadHeight_init := ⟨⟨_, oc_BadHeight_init, kV_BadHeight_init, doc_BadHeight_init, pm_BadHeight_init, ct_BadHeight_init, ccl_BadHeight_init, cl_BadHeight_init, od_BadHeight_init, an_BadHeight_init, cdd_BadHeight_init, cld_BadHeight_init, osl_BadHeight_init, ccs_BadHeight_init, csl_BadHeight_init, vs_BadHeight_init, file_BadHeight_init, tf_BadHeight_init, cc_BadHeight_init, cda_BadHeight_init, rfl, y1_BadHeight_init, y2_BadHeight_init, y3_BadHeight_init, y4_BadHeight_init, y5_BadHeight_init, y6_BadHeight_init⟩, He.eqO_ok (c.yes (q := q33) (in_q33)), He.free_ok X G (c.yes (q := q34) (in_q34)), He.eqO_ok (c.yes (q := q49) (in_q49)), of_decide_eq_true (c.yes (q := q50) (in_q50)), of_decide_eq_true (c.yes (q := q51) (in_q51)), He.eqO_ok (c.yes (q := q39) (in_q39)), by rfl⟩
    b_BadHeight_init := .all fun us hl => match us, hl with | [_, _], _ => rfl
    c_NoRule := He.ga K "NoRule"
    m_NoRule := He.glo_ok X G (c.yes (q := q52) (in_q52))
    o_NoRule := ⟨oexB_ok (c.yes (q := q55) (in_q55)), He.eqO_ok (c.yes (q := q56) (in_q56)), of_decide_eq_true (c.yes (q := q54) (in_q54)), of_decide_eq_true (c.yes (q := q57) (in_q57)), (c.yes (q := q58) (in_q58))⟩
    x_NoRule := ⟨xfB_ok (c.yes (q := q59) (in_q59)), He.eqO_ok (c.yes (q := q53) (in_q53))⟩
    f_NoRule_init := (Pa.meth "NoRule" "__init__").at K
    fd_NoRule_init := _
    i_NoRule := He.eqO_ok (c.yes (q := q61) (in_q61))
    t_NoRule := of_decide_eq_true (c.yes (q := q62) (in_q62))
    F_NoRule_init := ⟨⟨_, oc_NoRule_init, kV_NoRule_init, doc_NoRule_init, pm_NoRule_init, ct_NoRule_init, ccl_NoRule_init, cl_NoRule_init, od_NoRule_init, an_NoRule_init, cdd_NoRule_init, cld_NoRule_init, osl_NoRule_init, ccs_NoRule_init, csl_NoRule_init, vs_NoRule_init, file_NoRule_init, tf_NoRule_init, cc_NoRule_init, cda_NoRule_init, rfl, y1_NoRule_init, y2_NoRule_init, y3_NoRule_init, y4_NoRule_init, y5_NoRule_init, y6_NoRule_init⟩, He.eqO_ok (c.yes (q := q33) (in_q33)), He.free_ok X G (c.yes (q := q34) (in_q34)), He.eqO_ok (c.yes (q := q63) (in_q63)), of_decide_eq_true (c.yes (q := q64) (in_q64)), of_decide_eq_true (c.yes (q := q65) (in_q65)), He.eqO_ok (c.yes (q := q53) (in_q53)), by rfl⟩
    b_NoRule_init := .all fun us hl => match us, hl with | [_, _], _ => rfl
    c_BadLine := He.ga K "BadLine"
    m_BadLine := He.glo_ok X G (c.yes (q := q66) (in_q66))
    o_BadLine := ⟨oexB_ok (c.yes (q := q69) (in_q69)), He.eqO_ok (c.yes (q := q70) (in_q70)), of_decide_eq_true (c.yes (q := q68) (in_q68)), of_decide_eq_true (c.yes (q := q71) (in_q71)), (c.yes (q := q72) (in_q72))⟩
    x_BadLine := ⟨xfB_ok (c.yes (q := q73) (in_q73)), He.eqO_ok (c.yes (q := q67) (in_q67))⟩
    f_BadLine_init := (Pa.meth "BadLine" "__init__").at K
    fd_BadLine_init := _
    i_BadLine := He.eqO_ok (c.yes (q := q75) (in_q75))
    t_BadLine := of_decide_eq_true (c.yes (q := q76) (in_q76))
    F_BadLine_init := ⟨⟨_, oc_BadLine_init, kV_BadLine_init, doc_BadLine_init, pm_BadLine_init, ct_BadLine_init, ccl_BadLine_init, cl_BadLine_init, od_BadLine_init, an_BadLine_init, cdd_BadLine_init, cld_BadLine_init, osl_BadLine_init, ccs_BadLine_init, csl_BadLine_init, vs_BadLine_init, file_BadLine_init, tf_BadLine_init, cc_BadLine_init, cda_BadLine_init, rfl, y1_BadLine_init, y2_BadLine_init, y3_BadLine_init, y4_BadLine_init, y5_BadLine_init, y6_BadLine_init⟩, He.eqO_ok (c.yes (q := q33) (in_q33)), He.free_ok X G (c.yes (q := q34) (in_q34)), He.eqO_ok (c.yes (q := q77) (in_q77)), of_decide_eq_true (c.yes (q := q78) (in_q78)), of_decide_eq_true (c.yes (q := q79) (in_q79)), He.eqO_ok (c.yes (q := q67) (in_q67)), by rfl⟩
    b_BadLine_init := .all fun us hl => match us, hl with | [_, _], _ => rfl
    c_BadBound := He.ga K "BadBound"
    m_BadBound := He.glo_ok X G (c.yes (q := q80) (in_q80))
    o_BadBound := ⟨oexB_ok (c.yes (q := q83) (in_q83)), He.eqO_ok (c.yes (q := q84) (in_q84)), of_decide_eq_true (c.yes (q := q82) (in_q82)), of_decide_eq_true (c.yes (q := q85) (in_q85)), (c.yes (q := q86) (in_q86))⟩
    x_BadBound := ⟨xfB_ok (c.yes (q := q87) (in_q87)), He.eqO_ok (c.yes (q := q81) (in_q81))⟩
    f_BadBound_init := (Pa.meth "BadBound" "__init__").at K
    fd_BadBound_init := _
    i_BadBound := He.eqO_ok (c.yes (q := q89) (in_q89))
    t_BadBound := of_decide_eq_true (c.yes (q := q90) (in_q90))
    F_BadBound_init := ⟨⟨_, oc_BadBound_init, kV_BadBound_init, doc_BadBound_init, pm_BadBound_init, ct_BadBound_init, ccl_BadBound_init, cl_BadBound_init, od_BadBound_init, an_BadBound_init, cdd_BadBound_init, cld_BadBound_init, osl_BadBound_init, ccs_BadBound_init, csl_BadBound_init, vs_BadBound_init, file_BadBound_init, tf_BadBound_init, cc_BadBound_init, cda_BadBound_init, rfl, y1_BadBound_init, y2_BadBound_init, y3_BadBound_init, y4_BadBound_init, y5_BadBound_init, y6_BadBound_init⟩, He.eqO_ok (c.yes (q := q33) (in_q33)), He.free_ok X G (c.yes (q := q34) (in_q34)), He.eqO_ok (c.yes (q := q91) (in_q91)), of_decide_eq_true (c.yes (q := q92) (in_q92)), of_decide_eq_true (c.yes (q := q93) (in_q93)), He.eqO_ok (c.yes (q := q81) (in_q81)), by rfl⟩
    b_BadBound_init := .all fun us hl => match us, hl with | [_, _], _ => rfl
    c_Uneven := He.ga K "Uneven"
    m_Uneven := He.glo_ok X G (c.yes (q := q94) (in_q94))
    o_Uneven := (He.exc_ok (c.yes (q := q95) (in_q95))).1
    kp_Uneven := (He.exc_ok (c.yes (q := q95) (in_q95))).2.1
    r_Uneven := (He.exc_ok (c.yes (q := q95) (in_q95))).2.2.1
    t_Uneven := (He.exc_ok (c.yes (q := q95) (in_q95))).2.2.2
    c_BadRule := He.ga K "BadRule"
    m_BadRule := He.glo_ok X G (c.yes (q := q96) (in_q96))
    o_BadRule := (He.exc_ok (c.yes (q := q97) (in_q97))).1
    kp_BadRule := (He.exc_ok (c.yes (q := q97) (in_q97))).2.1
    r_BadRule := (He.exc_ok (c.yes (q := q97) (in_q97))).2.2.1
    t_BadRule := (He.exc_ok (c.yes (q := q97) (in_q97))).2.2.2
    c_BookFull := He.ga K "BookFull"
    m_BookFull := He.glo_ok X G (c.yes (q := q98) (in_q98))
    o_BookFull := (He.exc_ok (c.yes (q := q99) (in_q99))).1
    kp_BookFull := (He.exc_ok (c.yes (q := q99) (in_q99))).2.1
    r_BookFull := (He.exc_ok (c.yes (q := q99) (in_q99))).2.2.1
    t_BookFull := (He.exc_ok (c.yes (q := q99) (in_q99))).2.2.2
    c_Useless := He.ga K "Useless"
    m_Useless := He.glo_ok X G (c.yes (q := q100) (in_q100))
    o_Useless := ⟨oexB_ok (c.yes (q := q103) (in_q103)), He.eqO_ok (c.yes (q := q104) (in_q104)), of_decide_eq_true (c.yes (q := q102) (in_q102)), of_decide_eq_true (c.yes (q := q105) (in_q105)), (c.yes (q := q106) (in_q106))⟩
    x_Useless := ⟨xfB_ok (c.yes (q := q107) (in_q107)), He.eqO_ok (c.yes (q := q101) (in_q101))⟩
    f_Useless_init := (Pa.meth "Useless" "__init__").at K
    fd_Useless_init := _
    i_Useless := He.eqO_ok (c.yes (q := q109) (in_q109))
    t_Useless := of_decide_eq_true (c.yes (q := q110) (in_q110))
    F_Useless_init := ⟨⟨_, oc_Useless_init, kV_Useless_init, doc_Useless_init, pm_Useless_init, ct_Useless_init, ccl_Useless_init, cl_Useless_init, od_Useless_init, an_Useless_init, cdd_Useless_init, cld_Useless_init, osl_Useless_init, ccs_Useless_init, csl_Useless_init, vs_Useless_init, file_Useless_init, tf_Useless_init, cc_Useless_init, cda_Useless_init, rfl, y1_Useless_init, y2_Useless_init, y3_Useless_init, y4_Useless_init, y5_Useless_init, y6_Useless_init⟩, He.eqO_ok (c.yes (q := q33) (in_q33)), He.free_ok X G (c.yes (q := q34) (in_q34)), He.eqO_ok (c.yes (q := q111) (in_q111)), of_decide_eq_true (c.yes (q := q112) (in_q112)), of_decide_eq_true (c.yes (q := q113) (in_q113)), He.eqO_ok (c.yes (q := q101) (in_q101)), by rfl⟩
    b_Useless_init := .all fun us hl => match us, hl with | [_, _], _ => rfl
    c_BadLot := He.ga K "BadLot"
    m_BadLot := He.glo_ok X G (c.yes (q := q114) (in_q114))
    o_BadLot := (He.exc_ok (c.yes (q := q115) (in_q115))).1
    kp_BadLot := (He.exc_ok (c.yes (q := q115) (in_q115))).2.1
    r_BadLot := (He.exc_ok (c.yes (q := q115) (in_q115))).2.2.1
    t_BadLot := (He.exc_ok (c.yes (q := q115) (in_q115))).2.2.2
    em_BadSign_BadSign := He.exm_ok (c.yes (q := q116) (in_q116))
    em_BadSign_BadHeight := He.exm_ok (c.yes (q := q117) (in_q117))
    em_BadSign_NoRule := He.exm_ok (c.yes (q := q118) (in_q118))
    em_BadSign_BadLine := He.exm_ok (c.yes (q := q119) (in_q119))
    em_BadSign_BadBound := He.exm_ok (c.yes (q := q120) (in_q120))
    em_BadSign_Uneven := He.exm_ok (c.yes (q := q121) (in_q121))
    em_BadSign_BadRule := He.exm_ok (c.yes (q := q122) (in_q122))
    em_BadSign_BookFull := He.exm_ok (c.yes (q := q123) (in_q123))
    em_BadSign_Useless := He.exm_ok (c.yes (q := q124) (in_q124))
    em_BadSign_BadLot := He.exm_ok (c.yes (q := q125) (in_q125))
    em_BadHeight_BadSign := He.exm_ok (c.yes (q := q126) (in_q126))
    em_BadHeight_BadHeight := He.exm_ok (c.yes (q := q127) (in_q127))
    em_BadHeight_NoRule := He.exm_ok (c.yes (q := q128) (in_q128))
    em_BadHeight_BadLine := He.exm_ok (c.yes (q := q129) (in_q129))
    em_BadHeight_BadBound := He.exm_ok (c.yes (q := q130) (in_q130))
    em_BadHeight_Uneven := He.exm_ok (c.yes (q := q131) (in_q131))
    em_BadHeight_BadRule := He.exm_ok (c.yes (q := q132) (in_q132))
    em_BadHeight_BookFull := He.exm_ok (c.yes (q := q133) (in_q133))
    em_BadHeight_Useless := He.exm_ok (c.yes (q := q134) (in_q134))
    em_BadHeight_BadLot := He.exm_ok (c.yes (q := q135) (in_q135))
    em_NoRule_BadSign := He.exm_ok (c.yes (q := q136) (in_q136))
    em_NoRule_BadHeight := He.exm_ok (c.yes (q := q137) (in_q137))
    em_NoRule_NoRule := He.exm_ok (c.yes (q := q138) (in_q138))
    em_NoRule_BadLine := He.exm_ok (c.yes (q := q139) (in_q139))
    em_NoRule_BadBound := He.exm_ok (c.yes (q := q140) (in_q140))
    em_NoRule_Uneven := He.exm_ok (c.yes (q := q141) (in_q141))
    em_NoRule_BadRule := He.exm_ok (c.yes (q := q142) (in_q142))
    em_NoRule_BookFull := He.exm_ok (c.yes (q := q143) (in_q143))
    em_NoRule_Useless := He.exm_ok (c.yes (q := q144) (in_q144))
    em_NoRule_BadLot := He.exm_ok (c.yes (q := q145) (in_q145))
    em_BadLine_BadSign := He.exm_ok (c.yes (q := q146) (in_q146))
    em_BadLine_BadHeight := He.exm_ok (c.yes (q := q147) (in_q147))
    em_BadLine_NoRule := He.exm_ok (c.yes (q := q148) (in_q148))
    em_BadLine_BadLine := He.exm_ok (c.yes (q := q149) (in_q149))
    em_BadLine_BadBound := He.exm_ok (c.yes (q := q150) (in_q150))
    em_BadLine_Uneven := He.exm_ok (c.yes (q := q151) (in_q151))
    em_BadLine_BadRule := He.exm_ok (c.yes (q := q152) (in_q152))
    em_BadLine_BookFull := He.exm_ok (c.yes (q := q153) (in_q153))
    em_BadLine_Useless := He.exm_ok (c.yes (q := q154) (in_q154))
    em_BadLine_BadLot := He.exm_ok (c.yes (q := q155) (in_q155))
    em_BadBound_BadSign := He.exm_ok (c.yes (q := q156) (in_q156))
    em_BadBound_BadHeight := He.exm_ok (c.yes (q := q157) (in_q157))
    em_BadBound_NoRule := He.exm_ok (c.yes (q := q158) (in_q158))
    em_BadBound_BadLine := He.exm_ok (c.yes (q := q159) (in_q159))
    em_BadBound_BadBound := He.exm_ok (c.yes (q := q160) (in_q160))
    em_BadBound_Uneven := He.exm_ok (c.yes (q := q161) (in_q161))
    em_BadBound_BadRule := He.exm_ok (c.yes (q := q162) (in_q162))
    em_BadBound_BookFull := He.exm_ok (c.yes (q := q163) (in_q163))
    em_BadBound_Useless := He.exm_ok (c.yes (q := q164) (in_q164))
    em_BadBound_BadLot := He.exm_ok (c.yes (q := q165) (in_q165))
    em_Uneven_BadSign := He.exm_ok (c.yes (q := q166) (in_q166))
    em_Uneven_BadHeight := He.exm_ok (c.yes (q := q167) (in_q167))
    em_Uneven_NoRule := He.exm_ok (c.yes (q := q168) (in_q168))
    em_Uneven_BadLine := He.exm_ok (c.yes (q := q169) (in_q169))
    em_Uneven_BadBound := He.exm_ok (c.yes (q := q170) (in_q170))
    em_Uneven_Uneven := He.exm_ok (c.yes (q := q171) (in_q171))
    em_Uneven_BadRule := He.exm_ok (c.yes (q := q172) (in_q172))
    em_Uneven_BookFull := He.exm_ok (c.yes (q := q173) (in_q173))
    em_Uneven_Useless := He.exm_ok (c.yes (q := q174) (in_q174))
    em_Uneven_BadLot := He.exm_ok (c.yes (q := q175) (in_q175))
    em_BadRule_BadSign := He.exm_ok (c.yes (q := q176) (in_q176))
    em_BadRule_BadHeight := He.exm_ok (c.yes (q := q177) (in_q177))
    em_BadRule_NoRule := He.exm_ok (c.yes (q := q178) (in_q178))
    em_BadRule_BadLine := He.exm_ok (c.yes (q := q179) (in_q179))
    em_BadRule_BadBound := He.exm_ok (c.yes (q := q180) (in_q180))
    em_BadRule_Uneven := He.exm_ok (c.yes (q := q181) (in_q181))
    em_BadRule_BadRule := He.exm_ok (c.yes (q := q182) (in_q182))
    em_BadRule_BookFull := He.exm_ok (c.yes (q := q183) (in_q183))
    em_BadRule_Useless := He.exm_ok (c.yes (q := q184) (in_q184))
    em_BadRule_BadLot := He.exm_ok (c.yes (q := q185) (in_q185))
    em_BookFull_BadSign := He.exm_ok (c.yes (q := q186) (in_q186))
    em_BookFull_BadHeight := He.exm_ok (c.yes (q := q187) (in_q187))
    em_BookFull_NoRule := He.exm_ok (c.yes (q := q188) (in_q188))
    em_BookFull_BadLine := He.exm_ok (c.yes (q := q189) (in_q189))
    em_BookFull_BadBound := He.exm_ok (c.yes (q := q190) (in_q190))
    em_BookFull_Uneven := He.exm_ok (c.yes (q := q191) (in_q191))
    em_BookFull_BadRule := He.exm_ok (c.yes (q := q192) (in_q192))
    em_BookFull_BookFull := He.exm_ok (c.yes (q := q193) (in_q193))
    em_BookFull_Useless := He.exm_ok (c.yes (q := q194) (in_q194))
    em_BookFull_BadLot := He.exm_ok (c.yes (q := q195) (in_q195))
    em_Useless_BadSign := He.exm_ok (c.yes (q := q196) (in_q196))
    em_Useless_BadHeight := He.exm_ok (c.yes (q := q197) (in_q197))
    em_Useless_NoRule := He.exm_ok (c.yes (q := q198) (in_q198))
    em_Useless_BadLine := He.exm_ok (c.yes (q := q199) (in_q199))
    em_Useless_BadBound := He.exm_ok (c.yes (q := q200) (in_q200))
    em_Useless_Uneven := He.exm_ok (c.yes (q := q201) (in_q201))
    em_Useless_BadRule := He.exm_ok (c.yes (q := q202) (in_q202))
    em_Useless_BookFull := He.exm_ok (c.yes (q := q203) (in_q203))
    em_Useless_Useless := He.exm_ok (c.yes (q := q204) (in_q204))
    em_Useless_BadLot := He.exm_ok (c.yes (q := q205) (in_q205))
    em_BadLot_BadSign := He.exm_ok (c.yes (q := q206) (in_q206))
    em_BadLot_BadHeight := He.exm_ok (c.yes (q := q207) (in_q207))
    em_BadLot_NoRule := He.exm_ok (c.yes (q := q208) (in_q208))
    em_BadLot_BadLine := He.exm_ok (c.yes (q := q209) (in_q209))
    em_BadLot_BadBound := He.exm_ok (c.yes (q := q210) (in_q210))
    em_BadLot_Uneven := He.exm_ok (c.yes (q := q211) (in_q211))
    em_BadLot_BadRule := He.exm_ok (c.yes (q := q212) (in_q212))
    em_BadLot_BookFull := He.exm_ok (c.yes (q := q213) (in_q213))
    em_BadLot_Useless := He.exm_ok (c.yes (q := q214) (in_q214))
    em_BadLot_BadLot := He.exm_ok (c.yes (q := q215) (in_q215))
    c_Rule := He.ga K "Rule"
    m_Rule := He.glo_ok X G (c.yes (q := q216) (in_q216))
    cl_Rule := He.cls_ok (c.yes (q := q217) (in_q217))
    mk_Rule := (c.yes (q := q218) (in_q218))
    kp_Rule := (c.yes (q := q219) (in_q219))
    is_Rule := insB_ok (c.yes (q := q220) (in_q220)) (He.cls_ok (c.yes (q := q217) (in_q217)))
    sf_Rule := (c.yes (q := q221) (in_q221))
    na_Rule_left := He.noat_ok (c.yes (q := q222) (in_q222))
    na_Rule_right := He.noat_ok (c.yes (q := q223) (in_q223))
    c_Book := He.ga K "Book"
    m_Book := He.glo_ok X G (c.yes (q := q224) (in_q224))
    cl_Book := He.cls_ok (c.yes (q := q225) (in_q225))
    mk_Book := (c.yes (q := q226) (in_q226))
    kp_Book := (c.yes (q := q227) (in_q227))
    is_Book := insB_ok (c.yes (q := q228) (in_q228)) (He.cls_ok (c.yes (q := q225) (in_q225)))
    sf_Book := (c.yes (q := q229) (in_q229))
    na_Book__rules := He.noat_ok (c.yes (q := q230) (in_q230))
    c_Lot := He.ga K "Lot"
    m_Lot := He.glo_ok X G (c.yes (q := q231) (in_q231))
    cl_Lot := He.cls_ok (c.yes (q := q232) (in_q232))
    mk_Lot := (c.yes (q := q233) (in_q233))
    kp_Lot := (c.yes (q := q234) (in_q234))
    is_Lot := insB_ok (c.yes (q := q235) (in_q235)) (He.cls_ok (c.yes (q := q232) (in_q232)))
    sf_Lot := (c.yes (q := q236) (in_q236))
    na_Lot__states := He.noat_ok (c.yes (q := q237) (in_q237))
    na_Lot__last := He.noat_ok (c.yes (q := q238) (in_q238))
    na_Lot__moves := He.noat_ok (c.yes (q := q239) (in_q239))
    na_Lot__leads := He.noat_ok (c.yes (q := q240) (in_q240))
    f_is_sign := (Pa.glo "is_sign").at K
    fd_is_sign := fd_is_sign
    F_is_sign := FunD.fun (st := s_is_sign) FD_is_sign
    b_is_sign := (FunD.fun (st := s_is_sign) FD_is_sign).binds (ps := P_is_sign) fun _ _ _ _ _ _ us hl => match us, hl with | [_], _ => rfl
    m_is_sign := He.glo_ok X G (c.yes (q := q241) (in_q241))
    f_check_text := (Pa.glo "check_text").at K
    fd_check_text := fd_check_text
    F_check_text := FunD.fun (st := s_check_text) FD_check_text
    b_check_text := (FunD.fun (st := s_check_text) FD_check_text).binds (ps := P_check_text) fun _ _ _ _ _ _ us hl => match us, hl with | [_], _ => rfl
    m_check_text := He.glo_ok X G (c.yes (q := q242) (in_q242))
    f_decoded := (Pa.glo "decoded").at K
    fd_decoded := fd_decoded
    F_decoded := FunD.fun (st := s_decoded) FD_decoded
    b_decoded := (FunD.fun (st := s_decoded) FD_decoded).binds (ps := P_decoded) fun _ _ _ _ _ _ us hl => match us, hl with | [_], _ => rfl
    m_decoded := He.glo_ok X G (c.yes (q := q243) (in_q243))
    f_check_height := (Pa.glo "check_height").at K
    fd_check_height := fd_check_height
    F_check_height := FunD.fun (st := s_check_height) FD_check_height
    b_check_height := (FunD.fun (st := s_check_height) FD_check_height).binds (ps := P_check_height) fun _ _ _ _ _ _ us hl => match us, hl with | [_, _], _ => rfl
    m_check_height := He.glo_ok X G (c.yes (q := q244) (in_q244))
    f_check_bound := (Pa.glo "check_bound").at K
    fd_check_bound := fd_check_bound
    F_check_bound := FunD.fun (st := s_check_bound) FD_check_bound
    b_check_bound := (FunD.fun (st := s_check_bound) FD_check_bound).binds (ps := P_check_bound) fun _ _ _ _ _ _ us hl => match us, hl with | [_, _], _ => rfl
    m_check_bound := He.glo_ok X G (c.yes (q := q245) (in_q245))
    f_Rule_init := (Pa.meth "Rule" "__init__").at K
    fd_Rule_init := fd_Rule_init
    D_Rule_init := FD_Rule_init
    kp_Rule_init := FD_Rule_init.kp
    M_Rule_init := He.meth_ok (c.yes (q := q246) (in_q246))
    f_Rule_str := (Pa.meth "Rule" "__str__").at K
    fd_Rule_str := fd_Rule_str
    F_Rule_str := FunD.fun (st := s_Rule_str) FD_Rule_str
    b_Rule_str := (FunD.fun (st := s_Rule_str) FD_Rule_str).binds (ps := P_Rule_str) fun _ _ _ _ _ _ us hl => match us, hl with | [_], _ => rfl
    M_Rule_str := He.meth_ok (c.yes (q := q247) (in_q247))
    f_Book_init := (Pa.meth "Book" "__init__").at K
    fd_Book_init := fd_Book_init
    F_Book_init := FunD.fun (st := s_Book_init) FD_Book_init
    M_Book_init := He.meth_ok (c.yes (q := q248) (in_q248))
    f_Book_signs := (Pa.prop "Book" "signs").at K
    fd_Book_signs := fd_Book_signs
    F_Book_signs := FunD.fun (st := s_Book_signs) FD_Book_signs
    b_Book_signs := (FunD.fun (st := s_Book_signs) FD_Book_signs).binds (ps := P_Book_signs) fun _ _ _ _ _ _ us hl => match us, hl with | [_], _ => rfl
    p_Book_signs := He.ma K (He.ga K "Book") "signs"
    M_Book_signs := prpB_ok (c.yes (q := q249) (in_q249))
    f_Book_numbered := (Pa.meth "Book" "_numbered").at K
    fd_Book_numbered := fd_Book_numbered
    F_Book_numbered := FunD.fun (st := s_Book_numbered) FD_Book_numbered
    b_Book_numbered := (FunD.fun (st := s_Book_numbered) FD_Book_numbered).binds (ps := P_Book_numbered) fun _ _ _ _ _ _ us hl => match us, hl with | [_, _], _ => rfl
    M_Book_numbered := He.meth_ok (c.yes (q := q250) (in_q250))
    f_Book_drop := (Pa.meth "Book" "drop").at K
    fd_Book_drop := fd_Book_drop
    F_Book_drop := FunD.fun (st := s_Book_drop) FD_Book_drop
    b_Book_drop := (FunD.fun (st := s_Book_drop) FD_Book_drop).binds (ps := P_Book_drop) fun _ _ _ _ _ _ us hl => match us, hl with | [_, _], _ => rfl
    M_Book_drop := He.meth_ok (c.yes (q := q251) (in_q251))
    f_Book_written := (Pa.meth "Book" "written").at K
    fd_Book_written := fd_Book_written
    F_Book_written := FunD.fun (st := s_Book_written) FD_Book_written
    b_Book_written := (FunD.fun (st := s_Book_written) FD_Book_written).binds (ps := P_Book_written) fun _ _ _ _ _ _ us hl => match us, hl with | [_], _ => rfl
    M_Book_written := He.meth_ok (c.yes (q := q252) (in_q252))
    f__read_rule := (Pa.glo "_read_rule").at K
    fd__read_rule := fd__read_rule
    F__read_rule := FunD.fun (st := s__read_rule) FD__read_rule
    b__read_rule := (FunD.fun (st := s__read_rule) FD__read_rule).binds (ps := P__read_rule) fun _ _ _ _ _ _ us hl => match us, hl with | [_, _], _ => rfl
    m__read_rule := He.glo_ok X G (c.yes (q := q253) (in_q253))
    f_Book_read := (Pa.cmeth "Book" "read").at K
    fd_Book_read := fd_Book_read
    F_Book_read := FunD.fun (st := s_Book_read) FD_Book_read
    b_Book_read := (FunD.fun (st := s_Book_read) FD_Book_read).binds (ps := P_Book_read) fun _ _ _ _ _ _ us hl => match us, hl with | [_, _], _ => rfl
    p_Book_read := cmP K "Book" "read"
    cr_Book_read := (cmtB_ok (c.yes (q := q254) (in_q254))).1
    M_Book_read := (cmtB_ok (c.yes (q := q254) (in_q254))).2
    f__check_states := (Pa.glo "_check_states").at K
    fd__check_states := fd__check_states
    F__check_states := FunD.fun (st := s__check_states) FD__check_states
    b__check_states := (FunD.fun (st := s__check_states) FD__check_states).binds (ps := P__check_states) fun _ _ _ _ _ _ us hl => match us, hl with | [_, _, _], _ => rfl
    m__check_states := He.glo_ok X G (c.yes (q := q255) (in_q255))
    f__leads_of := (Pa.glo "_leads_of").at K
    fd__leads_of := fd__leads_of
    F__leads_of := FunD.fun (st := s__leads_of) FD__leads_of
    b__leads_of := (FunD.fun (st := s__leads_of) FD__leads_of).binds (ps := P__leads_of) fun _ _ _ _ _ _ us hl => match us, hl with | [_], _ => rfl
    m__leads_of := He.glo_ok X G (c.yes (q := q256) (in_q256))
    f_led_to := (Pa.glo "led_to").at K
    fd_led_to := fd_led_to
    F_led_to := FunD.fun (st := s_led_to) FD_led_to
    b_led_to := (FunD.fun (st := s_led_to) FD_led_to).binds (ps := P_led_to) fun _ _ _ _ _ _ us hl => match us, hl with | [_, _], _ => rfl
    m_led_to := He.glo_ok X G (c.yes (q := q257) (in_q257))
    f__check_useful := (Pa.glo "_check_useful").at K
    fd__check_useful := fd__check_useful
    F__check_useful := FunD.fun (st := s__check_useful) FD__check_useful
    b__check_useful := (FunD.fun (st := s__check_useful) FD__check_useful).binds (ps := P__check_useful) fun _ _ _ _ _ _ us hl => match us, hl with | [_, _, _], _ => rfl
    m__check_useful := He.glo_ok X G (c.yes (q := q258) (in_q258))
    f_Lot_init := (Pa.meth "Lot" "__init__").at K
    fd_Lot_init := fd_Lot_init
    F_Lot_init := FunD.fun (st := s_Lot_init) FD_Lot_init
    b_Lot_init := (FunD.fun (st := s_Lot_init) FD_Lot_init).binds (ps := P_Lot_init) fun _ _ _ _ _ _ us hl => match us, hl with | [_, _, _, _], _ => rfl
    M_Lot_init := He.meth_ok (c.yes (q := q259) (in_q259))
    f_Lot_moves := (Pa.prop "Lot" "moves").at K
    fd_Lot_moves := fd_Lot_moves
    F_Lot_moves := FunD.fun (st := s_Lot_moves) FD_Lot_moves
    b_Lot_moves := (FunD.fun (st := s_Lot_moves) FD_Lot_moves).binds (ps := P_Lot_moves) fun _ _ _ _ _ _ us hl => match us, hl with | [_], _ => rfl
    p_Lot_moves := He.ma K (He.ga K "Lot") "moves"
    M_Lot_moves := prpB_ok (c.yes (q := q260) (in_q260))
    f__law_pool := (Pa.glo "_law_pool").at K
    fd__law_pool := fd__law_pool
    F__law_pool := FunD.fun (st := s__law_pool) FD__law_pool
    b__law_pool := (FunD.fun (st := s__law_pool) FD__law_pool).binds (ps := P__law_pool) fun _ _ _ _ _ _ us hl => match us, hl with | [_], _ => rfl
    m__law_pool := He.glo_ok X G (c.yes (q := q261) (in_q261))
    f__law_pick := (Pa.glo "_law_pick").at K
    fd__law_pick := fd__law_pick
    F__law_pick := FunD.fun (st := s__law_pick) FD__law_pick
    b__law_pick := (FunD.fun (st := s__law_pick) FD__law_pick).binds (ps := P__law_pick) fun _ _ _ _ _ _ us hl => match us, hl with | [_, _], _ => rfl
    m__law_pick := He.glo_ok X G (c.yes (q := q262) (in_q262))
    f__law_alphabet := (Pa.glo "_law_alphabet").at K
    fd__law_alphabet := fd__law_alphabet
    F__law_alphabet := FunD.fun (st := s__law_alphabet) FD__law_alphabet
    b__law_alphabet := (FunD.fun (st := s__law_alphabet) FD__law_alphabet).binds (ps := P__law_alphabet) fun _ _ _ _ _ _ us hl => match us, hl with | [_, _], _ => rfl
    m__law_alphabet := He.glo_ok X G (c.yes (q := q263) (in_q263))
    f__law_word_of := (Pa.glo "_law_word_of").at K
    fd__law_word_of := fd__law_word_of
    F__law_word_of := FunD.fun (st := s__law_word_of) FD__law_word_of
    b__law_word_of := (FunD.fun (st := s__law_word_of) FD__law_word_of).binds (ps := P__law_word_of) fun _ _ _ _ _ _ us hl => match us, hl with | [_, _, _, _], _ => rfl
    m__law_word_of := He.glo_ok X G (c.yes (q := q264) (in_q264))
    f__law_is_int := (Pa.glo "_law_is_int").at K
    fd__law_is_int := fd__law_is_int
    F__law_is_int := FunD.fun (st := s__law_is_int) FD__law_is_int
    b__law_is_int := (FunD.fun (st := s__law_is_int) FD__law_is_int).binds (ps := P__law_is_int) fun _ _ _ _ _ _ us hl => match us, hl with | [_], _ => rfl
    m__law_is_int := He.glo_ok X G (c.yes (q := q265) (in_q265))
    f__law_book_of := (Pa.glo "_law_book_of").at K
    fd__law_book_of := fd__law_book_of
    F__law_book_of := FunD.fun (st := s__law_book_of) FD__law_book_of
    b__law_book_of := (FunD.fun (st := s__law_book_of) FD__law_book_of).binds (ps := P__law_book_of) fun _ _ _ _ _ _ us hl => match us, hl with | [_, _], _ => rfl
    m__law_book_of := He.glo_ok X G (c.yes (q := q266) (in_q266))
    f__law_led_from := (Pa.glo "_law_led_from").at K
    fd__law_led_from := fd__law_led_from
    F__law_led_from := FunD.fun (st := s__law_led_from) FD__law_led_from
    b__law_led_from := (FunD.fun (st := s__law_led_from) FD__law_led_from).binds (ps := P__law_led_from) fun _ _ _ _ _ _ us hl => match us, hl with | [_, _], _ => rfl
    m__law_led_from := He.glo_ok X G (c.yes (q := q267) (in_q267))
    f__law_lot_of := (Pa.glo "_law_lot_of").at K
    fd__law_lot_of := fd__law_lot_of
    F__law_lot_of := FunD.fun (st := s__law_lot_of) FD__law_lot_of
    b__law_lot_of := (FunD.fun (st := s__law_lot_of) FD__law_lot_of).binds (ps := P__law_lot_of) fun _ _ _ _ _ _ us hl => match us, hl with | [_, _], _ => rfl
    m__law_lot_of := He.glo_ok X G (c.yes (q := q268) (in_q268))
    f__law_lines_of := (Pa.glo "_law_lines_of").at K
    fd__law_lines_of := fd__law_lines_of
    F__law_lines_of := FunD.fun (st := s__law_lines_of) FD__law_lines_of
    b__law_lines_of := (FunD.fun (st := s__law_lines_of) FD__law_lines_of).binds (ps := P__law_lines_of) fun _ _ _ _ _ _ us hl => match us, hl with | [_], _ => rfl
    m__law_lines_of := He.glo_ok X G (c.yes (q := q269) (in_q269))
    f_Book_summed := (Pa.meth "Book" "_summed").at K
    fd_Book_summed := fd_Book_summed
    F_Book_summed := FunD.fun (st := s_Book_summed) FD_Book_summed
    b_Book_summed := (FunD.fun (st := s_Book_summed) FD_Book_summed).binds (ps := P_Book_summed) fun _ _ _ _ _ _ us hl => match us, hl with | [_, _, _], _ => rfl
    M_Book_summed := He.meth_ok (c.yes (q := q270) (in_q270))
    f_Book_sizes_at_bound := (Pa.meth "Book" "_sizes_at_bound").at K
    fd_Book_sizes_at_bound := fd_Book_sizes_at_bound
    F_Book_sizes_at_bound := FunD.fun (st := s_Book_sizes_at_bound) FD_Book_sizes_at_bound
    b_Book_sizes_at_bound := (FunD.fun (st := s_Book_sizes_at_bound) FD_Book_sizes_at_bound).binds (ps := P_Book_sizes_at_bound) fun _ _ _ _ _ _ us hl => match us, hl with | [_], _ => rfl
    M_Book_sizes_at_bound := He.meth_ok (c.yes (q := q271) (in_q271))
    f_Book_sizes_below := (Pa.meth "Book" "_sizes_below").at K
    fd_Book_sizes_below := fd_Book_sizes_below
    F_Book_sizes_below := FunD.fun (st := s_Book_sizes_below) FD_Book_sizes_below
    b_Book_sizes_below := (FunD.fun (st := s_Book_sizes_below) FD_Book_sizes_below).binds (ps := P_Book_sizes_below) fun _ _ _ _ _ _ us hl => match us, hl with | [_, _], _ => rfl
    M_Book_sizes_below := He.meth_ok (c.yes (q := q272) (in_q272))
    f_Book_grown := (Pa.meth "Book" "grown").at K
    fd_Book_grown := fd_Book_grown
    D_Book_grown := FD_Book_grown
    kp_Book_grown := FD_Book_grown.kp
    M_Book_grown := He.meth_ok (c.yes (q := q273) (in_q273))
    f_machine_size := (Pa.glo "machine_size").at K
    fd_machine_size := fd_machine_size
    F_machine_size := FunD.fun (st := s_machine_size) FD_machine_size
    m_machine_size := He.glo_ok X G (c.yes (q := q274) (in_q274))
    f__law_same := (Pa.glo "_law_same").at K
    fd__law_same := fd__law_same
    F__law_same := FunD.fun (st := s__law_same) FD__law_same
    b__law_same := (FunD.fun (st := s__law_same) FD__law_same).binds (ps := P__law_same) fun _ _ _ _ _ _ us hl => match us, hl with | [_, _], _ => rfl
    m__law_same := He.glo_ok X G (c.yes (q := q275) (in_q275))
    f__law_grown_told := (Pa.glo "_law_grown_told").at K
    fd__law_grown_told := fd__law_grown_told
    F__law_grown_told := FunD.fun (st := s__law_grown_told) FD__law_grown_told
    b__law_grown_told := (FunD.fun (st := s__law_grown_told) FD__law_grown_told).binds (ps := P__law_grown_told) fun _ _ _ _ _ _ us hl => match us, hl with | [_, _, _, _], _ => rfl
    m__law_grown_told := He.glo_ok X G (c.yes (q := q276) (in_q276))
    f__law_asked := (Pa.glo "_law_asked").at K
    fd__law_asked := fd__law_asked
    F__law_asked := FunD.fun (st := s__law_asked) FD__law_asked
    b__law_asked := (FunD.fun (st := s__law_asked) FD__law_asked).binds (ps := P__law_asked) fun _ _ _ _ _ _ us hl => match us, hl with | [_, _, _], _ => rfl
    m__law_asked := He.glo_ok X G (c.yes (q := q277) (in_q277))
    f__law_size_table := (Pa.glo "_law_size_table").at K
    fd__law_size_table := fd__law_size_table
    F__law_size_table := FunD.fun (st := s__law_size_table) FD__law_size_table
    b__law_size_table := (FunD.fun (st := s__law_size_table) FD__law_size_table).binds (ps := P__law_size_table) fun _ _ _ _ _ _ us hl => match us, hl with | [_, _, _], _ => rfl
    m__law_size_table := He.glo_ok X G (c.yes (q := q278) (in_q278))
    f__law_due_of := (Pa.glo "_law_due_of").at K
    fd__law_due_of := fd__law_due_of
    F__law_due_of := FunD.fun (st := s__law_due_of) FD__law_due_of
    b__law_due_of := (FunD.fun (st := s__law_due_of) FD__law_due_of).binds (ps := P__law_due_of) fun _ _ _ _ _ _ us hl => match us, hl with | [_, _, _, _, _], _ => rfl
    m__law_due_of := He.glo_ok X G (c.yes (q := q279) (in_q279))
    f_Book_growths := (Pa.meth "Book" "growths").at K
    fd_Book_growths := fd_Book_growths
    F_Book_growths := FunD.fun (st := s_Book_growths) FD_Book_growths
    b_Book_growths := (FunD.fun (st := s_Book_growths) FD_Book_growths).binds (ps := P_Book_growths) fun _ _ _ _ _ _ us hl => match us, hl with | [_, _], _ => rfl
    M_Book_growths := He.meth_ok (c.yes (q := q280) (in_q280))
    f__law_places_of := (Pa.glo "_law_places_of").at K
    fd__law_places_of := fd__law_places_of
    F__law_places_of := FunD.fun (st := s__law_places_of) FD__law_places_of
    b__law_places_of := (FunD.fun (st := s__law_places_of) FD__law_places_of).binds (ps := P__law_places_of) fun _ _ _ _ _ _ us hl => match us, hl with | [_, _], _ => rfl
    m__law_places_of := He.glo_ok X G (c.yes (q := q281) (in_q281))
    f__law_fine := (Pa.glo "_law_fine").at K
    fd__law_fine := fd__law_fine
    F__law_fine := FunD.fun (st := s__law_fine) FD__law_fine
    b__law_fine := (FunD.fun (st := s__law_fine) FD__law_fine).binds (ps := P__law_fine) fun _ _ _ _ _ _ us hl => match us, hl with | [_, _, _, _, _, _], _ => rfl
    m__law_fine := He.glo_ok X G (c.yes (q := q282) (in_q282))
    f_law := (Pa.glo "law").at K
    fd_law := fd_law
    F_law := FunD.fun (st := s_law) FD_law
    b_law := (FunD.fun (st := s_law) FD_law).binds (ps := P_law) fun _ _ _ _ _ _ us hl => match us, hl with | [_], _ => rfl
    m_law := He.glo_ok X G (c.yes (q := q283) (in_q283))
  }
  have bl := FunD.bindsA (ps := ["_law_script"]) FD_law fun _ _ _ _ _ _ us hl => match us, hl with | [_], _ => rfl
  rw [← e2]
  exact ⟨T.fd_law, fun s v => bl s [v] rfl, fun base _ _ => ok_law T⟩
abbrev hRow : PySem.W.OpenRow := (PySem.W.OpenLaw.row PySem.Challenge.rw_risensigns_k12_book_sizes)
abbrev hHk : PySem.W.Hook := hookR hXs 4 hQs hDs
def hOb (s : PySem.W.SharedT) : AlR := obsRG hXs 4 hQs hDs (HandSHeadRun.getT s)
theorem hOb_eq (s : PySem.W.SharedT) : hOb s = hHk.obs s.abs := obsRG_eq (HandSHeadRun.getT_eq s)
set_option maxHeartbeats 0 in
theorem hRun (w : World) : HandSHeadRun.RunEq hRow (PySem.W.view hRow.prog [62]) hHk hOb 100000 hNs w := by
  intro os
  kernel_rfl
end Rz
open PySem PySem.W PySem.Calls PyProof.Rows in
set_option maxRecDepth 100000 in
set_option maxHeartbeats 0 in
theorem PySem.Challenge.cw_risensigns_k12_book_sizes_holds : PySem.Challenge.rw_risensigns_k12_book_sizes.Holds := by
  w_on; o_law
  refine HandSHeadRun.head_any (r := Rz.hRow) (q := view Rz.hRow.prog [62]) (H := Rz.hHk) (ob := Rz.hOb) (M := 100000) (loose := Rz.hNs) (d := HandSHeadRun.topDef Rz.hRow.prog 62) (kwd := []) Rz.hOb_eq (by kernel_rfl) (fun s => by kernel_rfl) Rz.hRun
    (by kernel_rfl) (by kernel_rfl) (by kernel_rfl) (by rfl) (by first | assumption | decide +kernel) (by decide +kernel) ⟨rfl, rfl, rfl, rfl, rfl, by decide +kernel⟩ ?hw ?hc
  case hw => w_witness2
  case hc =>
    refine LamX.walk_ofTsE (l := PySem.Challenge.rw_risensigns_k12_book_sizes) (n := 63) (k := 14) (x := "_law_script") (CX := fun w => L2.CX Rz.prg w) rfl (by decide) (by kernel_rfl) ⟨rfl, by decide, by decide⟩ ?F (fun w H s e s' z => Rz.no_cx w H s e s' z)
    intro w mg fa h Y G hmg0
    obtain ⟨K, KX, c⟩ := Y
    have hmg : mg ("law" : PySem.Str) = some (.ref fa) := by
      have e : (HandSHeadRun.topDef Rz.hRow.prog 62).name = ("law" : PySem.Str) := by kernel_rfl
      rw [← e]
      exact hmg0
    obtain ⟨fd, hb, hF⟩ := Rz.all_mk (w := w) KX G hmg c
    exact ⟨K, KX, fd, [], Rz.spLaw K, fun p hp => (by cases hp), fun p hp => (by cases hp), fun p hp => (by cases hp), hb, fun H a ns hl _ _ hS => ⟨a, ns, rfl, hS, hl, fun _ => rfl⟩, fun base hK hN _ => hF base hK hN⟩
#print axioms PySem.Challenge.cw_risensigns_k12_book_sizes_holds
